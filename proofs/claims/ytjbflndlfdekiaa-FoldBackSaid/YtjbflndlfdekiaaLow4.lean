/- Contracts and mathematics that the texts behind it stand on: Trow, Fold, Samem, Samb. -/
import Derived.Test.YtjbflndlfdekiaaLow2
import Derived.Test.YtjbflndlfdekiaaLow3
import Derived.Laws.StructEq
import Derived.BigQuiet
/- A row of runs that is made of a tape of numbers. -/
namespace Go.Proofs.Ytjbflndlfdekiaa
open Go.RowKit Tab
set_option linter.unusedSimpArgs false
set_option linter.unusedVariables false

/-- A run of the kind that a tape makes. -/
def Fair (parts : Nat) (r : Rn) : Prop := 1 ≤ r.n ∧ r.n ≤ 4 ∧ -1 ≤ r.p ∧ r.p < parts
theorem fair_ticks {parts : Nat} {L : List Rn} (h : ∀ r ∈ L, Fair parts r) : ticks L ≤ 4 * L.length := by
  induction L with
  | nil => simp [ticks]
  | cons x L ih =>
    have h1 := h x (by simp)
    have h2 := ih fun r hr => h r (by simp [hr])
    unfold Fair at h1
    simp only [ticks, List.length_cons]
    omega
/-- A row of runs, new; of what was there the tape alone has turned. -/
def RowT (B b : Nat) (A : Option Addr) (m c : Nat) (f : Nat → Int) (parts most : Nat) (w : World) (e : Ending) (w' : World) : Prop :=
  ∃ (L : List Rn) (A' : Option Addr) (n' c' at' : Nat), e = .returned (.slice A' n' c') ∧ (∀ r ∈ L, Fair parts r) ∧ OwnV 41 2 w' w.heap.size A' n' c' (rs L) ∧ 1 ≤ n' ∧ n' ≤ most ∧ TapeW w' B b A m c f at' ∧ w.grownBy w' (some b)
theorem OwnV.gb {E s : Nat} {w w' : World} {B n c b : Nat} {A : Option Addr} {l : List Value} (h : OwnV E s w B A n c l) (hg : w.grownBy w' (some b)) (hb : b < B) : OwnV E s w' B A n c l :=
  h.keep fun k hk hlt => hg.block k hlt (fun e => by injection e with e; omega)
set_option maxRecDepth 100000 in
set_option maxHeartbeats 4000000 in
theorem row_any (B b : Nat) (A : Option Addr) (m c : Nat) (f : Nat → Int) (hm : m ≤ 140737488351232) (parts most : Nat) (hp1 : 1 ≤ parts) (hp2 : parts ≤ 6) (hm1 : 1 ≤ most) (hm2 : most ≤ 64) (at_ : Nat) (w : World) (T : TapeW w B b A m c f at_) :
    Calls Try.prog 6 #[.pointer (some ⟨b, 0, none⟩), .int .i64 (parts : Int), .int .i64 (most : Int)] w (RowT B b A m c f parts most w) := by
  have hb0 : b < w.heap.size := T.lt
  go_enter Try.func6, Try.ntmps6
  go_wp2_with fail
  refine (next_at B b A m c f at_ most _ w T rfl hm1 (by omega) hm).mono ?_
  rintro e w1 ⟨k, at1, hk, rfl, T1, G1⟩
  go_wp2_with fail
  go_loopw [7, 8] (fun q s wr => ∃ (i : Nat) (L : List Rn) (A1 : Option Addr) (c1 at' : Nat), i ≤ 1 + k ∧ s = .int .i64 ((1 + k - i : Nat) : Int) ∧ q = .slice A1 i c1 ∧ (∀ r ∈ L, Fair parts r) ∧ OwnV 41 2 wr w.heap.size A1 i c1 (rs L) ∧ TapeW wr B b A m c f at' ∧ w.grownBy wr (some b)) (fun _ s _ => (intOf s).toNat)
  case atStart => exact ⟨0, [], none, 0, at1, by omega, by simp, rfl, by simp, OwnV.nil _ _ _ _, T1, G1⟩
  case round =>
    obtain ⟨i, L, A1, c1, at3, hi, rfl, rfl, hL, hown, T4, G4⟩ := hrel
    have HLL := Lib.hid hL
    clear hL
    by_cases hlt : i < 1 + k
    · obtain ⟨j, hj⟩ : ∃ j : Nat, 1 + k - i = j + 1 := ⟨k - i, by omega⟩
      rw [hj]
      have hj0 : 0 < (j : Int) + 1 := by omega
      go_wp2_with fail
      refine (next_at B b A m c f at3 (parts + 1) _ _ T4 (by omega) (by omega) (by omega) hm).mono ?_
      rintro e w5 ⟨p, at5, hp, rfl, T5, G5⟩
      go_wp2_with fail
      refine (next_at B b A m c f at5 4 _ w5 T5 rfl (by omega) (by omega) hm).mono ?_
      rintro e w6 ⟨z, at6, hz, rfl, T6, G6⟩
      have q6 := (hown.gb G5 hb0).gb G6 hb0
      have G7 := gb_trans G4 (gb_trans G5 G6)
      have hown7 := q6.below rfl (bl1 w6 (.cells #[.int .i64 ((p : Int) - 1), .int .i64 (1 + (z : Int))] 41))
      have T7 := T6.below (bl1 w6 (.cells #[.int .i64 ((p : Int) - 1), .int .i64 (1 + (z : Int))] 41)) T6.lt
      have G8 := gb_alloc G7 (.cells #[.int .i64 ((p : Int) - 1), .int .i64 (1 + (z : Int))] 41)
      have hrd := rdV_new w6 #[.int .i64 ((p : Int) - 1), .int .i64 (1 + (z : Int))] 41 (rs [⟨(p : Int) - 1, 1 + z⟩]) rfl
      clear T1 T4 T5 T6 G1 G4 G5 G6 G7 hown q6
      go_wp2_with (at_builtin; go_loud (refine wpList_appV elR rfl (.tmp 17) (.tmp 27) rfl rfl w.heap.size A1 i c1 _ rfl hown7 _ 1 1 _ _ rfl hrd rfl (rs_one _) (by omega) (by unfold maxLen; omega) G8.size (i + 1) rfl (rs (L ++ [⟨(p : Int) - 1, 1 + z⟩])) (rs_append _ _).symm ?_; intro A2 c2 w2 hw2 hb2 _))
      go_roundw
      case rel =>
        refine ⟨i + 1, _, A2, c2, at6, by omega, ?_, rfl, ?_, hw2, T7.below hb2 hb0, gb_below G8 hb2 (Nat.le_refl _)⟩
        · rw [show 1 + k - (i + 1) = j by omega]
        · intro r hr
          rcases List.mem_append.1 hr with hr | hr
          · exact HLL.out r hr
          · simp at hr
            subst hr
            unfold Fair
            dsimp only
            omega
      case measure => simp [intOf]
    · have e : 1 + k - i = 0 := by omega
      rw [e]
      go_wp2_with fail
      go_ret
      exact ⟨L, A1, i, c1, at3, rfl, HLL.out, hown, by omega, by omega, T4, G4⟩
/-- A row of runs, new; what was there is as it was. -/
def RowB (parts most : Nat) (w : World) (e : Ending) (w' : World) : Prop :=
  ∃ (L : List Rn) (A' : Option Addr) (n' c' : Nat), e = .returned (.slice A' n' c') ∧ (∀ r ∈ L, Fair parts r) ∧ RdR w' w'.heap.size A' n' L ∧ n' ≤ c' ∧ 1 ≤ n' ∧ n' ≤ most ∧ Below w.heap.size w w'
/-- Out of a tape that was just boxed. -/
theorem row_box (A : Option Addr) (n cap : Nat) (f : Nat → Int) (w : World) (P D : Int) (parts most : Nat) (hP : P = (parts : Int)) (hD : D = (most : Int)) (hp1 : 1 ≤ parts) (hp2 : parts ≤ 6) (hm1 : 1 ≤ most) (hm2 : most ≤ 64) (h : RdC w w.heap.size A n fun j => .int .i64 (f j)) (hn : n ≤ 140737488351232) :
    Calls Try.prog 6 #[.pointer (some ⟨w.heap.size, 0, none⟩), .int .i64 P, .int .i64 D] (w.alloc (.cells #[.slice A n cap, .int .i64 0] 25)) (RowB parts most w) := by
  subst hP; subst hD
  refine (row_any w.heap.size w.heap.size A n cap f hn parts most hp1 hp2 hm1 hm2 0 _ (tape_boxed A n cap f w h)).mono ?_
  rintro e w1 ⟨L, A', n', c', at', rfl, hL, hown, h1, h2, T1, G1⟩
  exact ⟨L, A', n', c', rfl, hL, hown.rdr, hown.cap, h1, h2, gb_boxed G1⟩
end Go.Proofs.Ytjbflndlfdekiaa

/- Rows of items, folded step by step: what stays, what gets less, how deep they grow; periods of a row: plain mathematics. -/
namespace Go.Proofs.Ytjbflndlfdekiaa
namespace Tab

/-- The leaf of a run. -/
def leafN (r : Rn) : Nd := if r.p = -1 then ⟨2, 0, (r.n : Int)⟩ else ⟨1, r.p, (r.n : Int)⟩
/-- A row of runs as items. -/
def itemsF : List Rn → F
  | [] => .nil
  | r :: s => .cons (leafN r) .nil (itemsF s)
theorem leafN_one (r : Rn) (s : List Rn) : one (leafN r) s = [r] := by
  unfold leafN one whose
  split
  · rename_i h
    simp
    rw [← h]
  · simp
theorem itemsF_lvs (L : List Rn) : (itemsF L).lvs = L := by
  induction L with
  | nil => rfl
  | cons r s ih => simp only [itemsF, F.lvs, leafN_one, ih]; rfl
theorem itemsF_cnt (L : List Rn) : (itemsF L).cnt = L.length := by
  induction L with
  | nil => rfl
  | cons r s ih => simp only [itemsF, F.cnt, ih, List.length_cons]
theorem itemsF_sz (L : List Rn) : (itemsF L).sz = L.length := by
  induction L with
  | nil => rfl
  | cons r s ih => simp only [itemsF, F.sz, ih, List.length_cons]; omega
theorem leafN_kn (r : Rn) : kn (leafN r) = 0 := by
  unfold leafN kn
  split <;> simp
theorem leafN_fine {r : Rn} (h : 1 ≤ r.n ∧ -1 ≤ r.p ∧ r.p ≤ 5) : fine (leafN r) = true := by
  unfold leafN fine
  split <;> simp <;> omega
theorem itemsF_ok {L : List Rn} (h : ∀ r ∈ L, 1 ≤ r.n ∧ -1 ≤ r.p ∧ r.p ≤ 5) : (itemsF L).ok := by
  induction L with
  | nil => trivial
  | cons r s ih => exact ⟨leafN_fine (h r (by simp)), by rw [leafN_kn]; rfl, trivial, ih fun q hq => h q (by simp [hq])⟩
theorem itemsF_append (a b : List Rn) : itemsF (a ++ b) = (itemsF a).app (itemsF b) := by
  induction a with
  | nil => rfl
  | cons x a ih => simp only [List.cons_append, itemsF, F.app, ih]

theorem app_lvs (f g : F) : (f.app g).lvs = f.lvs ++ g.lvs := by
  induction f with
  | nil => rfl
  | cons x k r _ hr => simp only [F.app, F.lvs, hr, List.append_assoc]
theorem app_assoc (f g h : F) : (f.app g).app h = f.app (g.app h) := by
  induction f with
  | nil => rfl
  | cons x k r _ hr => simp only [F.app, hr]
theorem app_nil (f : F) : f.app .nil = f := by
  induction f with
  | nil => rfl
  | cons x k r _ hr => simp only [F.app, hr]
theorem app_ok_iff (f g : F) : (f.app g).ok ↔ f.ok ∧ g.ok := by
  induction f with
  | nil => simp [F.app, F.ok]
  | cons x k r _ hr => simp only [F.app, F.ok, hr]; exact ⟨fun ⟨a, b, c, d, e⟩ => ⟨⟨a, b, c, d⟩, e⟩, fun ⟨⟨a, b, c, d⟩, e⟩ => ⟨a, b, c, d, e⟩⟩
/-- Items as one table. -/
def wrapF (g : F) : F := if g.cnt = 1 then g else .cons ⟨3, 0, (g.cnt : Int)⟩ g .nil
theorem wrapF_cnt (g : F) : (wrapF g).cnt = 1 := by
  unfold wrapF
  split
  · assumption
  · rfl
theorem wrapF_lvs (g : F) : (wrapF g).lvs = g.lvs := by
  unfold wrapF
  split
  · rfl
  · simp only [F.lvs, List.append_nil]
    exact lvs_seq rfl _
theorem wrapF_ok {g : F} (h : g.ok) (h1 : 1 ≤ g.cnt) (h2 : g.cnt ≤ 128) : (wrapF g).ok := by
  unfold wrapF
  split
  · exact h
  · refine ⟨?_, by simp [kn], h, trivial⟩
    unfold fine
    simp
    omega
theorem wrapF_sz (g : F) : (wrapF g).sz = g.sz + if g.cnt = 1 then 0 else 1 := by
  unfold wrapF
  split
  · rfl
  · simp only [F.sz]; omega
theorem wrapF_dep (g : F) : (wrapF g).dep ≤ g.dep + 1 ∧ (g.cnt = 1 → (wrapF g).dep = g.dep) := by
  unfold wrapF
  split
  · exact ⟨by omega, fun _ => rfl⟩
  · rename_i h
    exact ⟨by simp only [F.dep]; omega, fun h' => absurd h' h⟩
/-- A table of items is one tree. -/
theorem wrapF_tree (g : F) : ∃ x k, wrapF g = .cons x k .nil := by
  have h := wrapF_cnt g
  cases hw : wrapF g with
  | nil => rw [hw] at h; simp [F.cnt] at h
  | cons x k r =>
    rw [hw] at h
    simp only [F.cnt] at h
    have : r = .nil := F.cnt_zero (by omega)
    exact ⟨x, k, by rw [this]⟩
/-- So many times the same items. -/
def timesF : Nat → F → F
  | 0, _ => .nil
  | n + 1, g => g.app (timesF n g)
theorem timesF_lvs (n : Nat) (g : F) : (timesF n g).lvs = reps n g.lvs := by
  induction n with
  | zero => rfl
  | succ n ih => simp only [timesF, app_lvs, ih]; rfl
theorem timesF_cnt (n : Nat) (g : F) : (timesF n g).cnt = n * g.cnt := by
  induction n with
  | zero => simp [timesF, F.cnt]
  | succ n ih => simp only [timesF, F.app_cnt, ih, Nat.succ_mul]; omega
theorem timesF_sz (n : Nat) (g : F) : (timesF n g).sz = n * g.sz := by
  induction n with
  | zero => simp [timesF, F.sz]
  | succ n ih => simp only [timesF, F.app_sz, ih, Nat.succ_mul]; omega
/-- One item for so many times the same ones. -/
def foldF (n : Nat) (g : F) : F := .cons ⟨4, 0, (n : Int)⟩ (wrapF g) .nil
theorem foldF_lvs (n : Nat) (g : F) : (foldF n g).lvs = reps n g.lvs := by
  unfold foldF
  simp only [F.lvs, List.append_nil, wrapF_lvs]
  rw [lvs_rep rfl]
  rfl
theorem foldF_ok {n : Nat} {g : F} (h : g.ok) (h1 : 1 ≤ g.cnt) (h2 : g.cnt ≤ 128) (hn : 1 ≤ n) : (foldF n g).ok := by
  refine ⟨?_, by rw [wrapF_cnt]; rfl, wrapF_ok h h1 h2, trivial⟩
  unfold fine
  simp
  omega
theorem foldF_sz (n : Nat) (g : F) : (foldF n g).sz = 1 + g.sz + if g.cnt = 1 then 0 else 1 := by
  simp only [foldF, F.sz, wrapF_sz]
  omega
/-- How many leaves a tree has, and how deep it may be then. -/
def wide : F → Prop
  | .nil => True
  | .cons x k r => 2 ^ k.dep ≤ (one x k.lvs).length * (one x k.lvs).length ∧ wide r
theorem wide_app (f g : F) : wide (f.app g) ↔ wide f ∧ wide g := by
  induction f with
  | nil => simp [F.app, wide]
  | cons x k r _ hr => simp only [F.app, wide, hr, and_assoc]
theorem wide_items (L : List Rn) : wide (itemsF L) := by
  induction L with
  | nil => trivial
  | cons r s ih => exact ⟨by rw [leafN_one]; simp [F.dep], ih⟩
theorem sq_le {a b : Nat} (h : a ≤ b) : a * a ≤ b * b := Nat.mul_le_mul h h
theorem wide_dep {f : F} (h : wide f) (hc : 1 ≤ f.cnt) : 2 ^ f.dep ≤ 2 * (f.lvs.length * f.lvs.length) ∧ 1 ≤ f.lvs.length := by
  induction f with
  | nil => simp [F.cnt] at hc
  | cons x k r _ hr =>
    obtain ⟨h1, h2⟩ := h
    have h3 : 1 ≤ 2 ^ k.dep := Nat.one_le_two_pow
    have h4 : 1 ≤ (one x k.lvs).length := by
      rcases Nat.eq_zero_or_pos (one x k.lvs).length with e | e
      · rw [e] at h1; omega
      · exact e
    have e : (F.cons x k r).lvs.length = (one x k.lvs).length + r.lvs.length := by simp [F.lvs]
    rw [e]
    refine ⟨?_, by omega⟩
    have h5 := sq_le (show (one x k.lvs).length ≤ (one x k.lvs).length + r.lvs.length by omega)
    have h6 : 2 ^ (k.dep + 1) ≤ 2 * (((one x k.lvs).length + r.lvs.length) * ((one x k.lvs).length + r.lvs.length)) := by
      rw [Nat.pow_succ, Nat.mul_comm]
      omega
    simp only [F.dep]
    by_cases hm : r.dep ≤ k.dep + 1
    · rw [Nat.max_eq_left hm]
      exact h6
    · rw [Nat.max_eq_right (by omega)]
      have hc2 : 1 ≤ r.cnt := by
        rcases Nat.eq_zero_or_pos r.cnt with e | e
        · rw [F.cnt_zero e] at hm; simp [F.dep] at hm
        · exact e
      have h7 := (hr h2 hc2).1
      have h8 := sq_le (show r.lvs.length ≤ (one x k.lvs).length + r.lvs.length by omega)
      omega
theorem reps_length (n : Nat) (s : List Rn) : (reps n s).length = n * s.length := by
  induction n with
  | zero => simp [reps]
  | succ n ih => simp only [reps, List.length_append, ih, Nat.succ_mul]; omega
theorem wide_fold {n : Nat} {g : F} (h : wide g) (hn : 2 ≤ n) (hc : 1 ≤ g.cnt) : wide (foldF n g) := by
  refine ⟨?_, trivial⟩
  have e : (one ⟨4, 0, (n : Int)⟩ (wrapF g).lvs).length = n * g.lvs.length := by
    rw [wrapF_lvs, lvs_rep rfl, reps_length]
    rfl
  rw [e]
  obtain ⟨h1, h2⟩ := wide_dep h hc
  have h3 := (wrapF_dep g).1
  have h4 : 2 ^ (wrapF g).dep ≤ 2 ^ (g.dep + 1) := Nat.pow_le_pow_right (by omega) h3
  have h5 := sq_le (Nat.mul_le_mul_right g.lvs.length hn)
  have h6 : 2 * g.lvs.length * (2 * g.lvs.length) = 4 * (g.lvs.length * g.lvs.length) := by
    rw [Nat.mul_assoc, Nat.mul_left_comm g.lvs.length 2, ← Nat.mul_assoc]
  rw [Nat.pow_succ] at h4
  omega
/-- Items, of which so many times the same are one. -/
structure Folds (f f' : F) : Prop where
  ex : ∃ (a g b : F) (n : Nat), f = a.app ((timesF n g).app b) ∧ f' = a.app ((foldF n g).app b) ∧ 2 ≤ n ∧ 1 ≤ g.cnt ∧ (if g.cnt = 1 then 1 else 2) < g.sz * (n - 1)
theorem Folds.lvs {f f' : F} (h : Folds f f') : f'.lvs = f.lvs := by
  obtain ⟨a, g, b, n, rfl, rfl, _⟩ := h.ex
  simp only [app_lvs, foldF_lvs, timesF_lvs]
theorem Folds.cnt {f f' : F} (h : Folds f f') : f'.cnt < f.cnt ∧ 1 ≤ f'.cnt := by
  obtain ⟨a, g, b, n, rfl, rfl, hn, hc, _⟩ := h.ex
  simp only [F.app_cnt, timesF_cnt]
  have e : (foldF n g).cnt = 1 := rfl
  have : 2 * 1 ≤ n * g.cnt := Nat.mul_le_mul hn hc
  omega
theorem Folds.sz {f f' : F} (h : Folds f f') : f'.sz + 1 ≤ f.sz := by
  obtain ⟨a, g, b, n, rfl, rfl, hn, hc, hs⟩ := h.ex
  simp only [F.app_sz, timesF_sz, foldF_sz]
  obtain ⟨j, rfl⟩ : ∃ j, n = j + 1 := ⟨n - 1, by omega⟩
  rw [Nat.succ_mul]
  rw [Nat.add_sub_cancel, Nat.mul_comm] at hs
  split at hs
  · rename_i h1
    rw [if_pos h1]
    omega
  · rename_i h1
    rw [if_neg h1]
    omega
theorem Folds.ok {f f' : F} (h : Folds f f') (hok : f.ok) (hc : f.cnt ≤ 128) : f'.ok := by
  obtain ⟨a, g, b, n, rfl, rfl, hn, hg, hs⟩ := h.ex
  rw [app_ok_iff, app_ok_iff] at hok ⊢
  obtain ⟨j, rfl⟩ : ∃ j, n = j + 1 := ⟨n - 1, by omega⟩
  simp only [timesF, app_ok_iff] at hok
  simp only [F.app_cnt, timesF] at hc
  exact ⟨hok.1, foldF_ok hok.2.1.1 hg (by omega) (by omega), hok.2.2⟩
theorem Folds.wide {f f' : F} (h : Folds f f') (hw : Tab.wide f) : Tab.wide f' := by
  obtain ⟨a, g, b, n, rfl, rfl, hn, hg, hs⟩ := h.ex
  rw [wide_app, wide_app] at hw ⊢
  obtain ⟨j, rfl⟩ : ∃ j, n = j + 1 := ⟨n - 1, by omega⟩
  simp only [timesF, wide_app] at hw
  exact ⟨hw.1, wide_fold hw.2.1.1 hn hg, hw.2.2⟩
/-- Items out of a row, folded as often as it may be. -/
structure Items (L : List Rn) (f : F) : Prop where
  lvs : f.lvs = L
  ok : f.ok
  cnt : 1 ≤ f.cnt ∧ f.cnt ≤ L.length
  wide : Tab.wide f
  sz : f = itemsF L ∨ f.sz + 1 ≤ L.length
theorem Items.start {L : List Rn} (h : ∀ r ∈ L, 1 ≤ r.n ∧ -1 ≤ r.p ∧ r.p ≤ 5) (h1 : 1 ≤ L.length) : Items L (itemsF L) :=
  ⟨itemsF_lvs L, itemsF_ok h, by rw [itemsF_cnt]; exact ⟨h1, Nat.le_refl _⟩, wide_items L, .inl rfl⟩
theorem Items.step {L : List Rn} {f f' : F} (h : Items L f) (hL : L.length ≤ 128) (hf : Folds f f') : Items L f' := by
  have h1 := hf.cnt
  have h2 := h.cnt
  refine ⟨hf.lvs.trans h.lvs, hf.ok h.ok (by omega), ⟨h1.2, by omega⟩, hf.wide h.wide, .inr ?_⟩
  have h3 := hf.sz
  rcases h.sz with e | e
  · rw [e, itemsF_sz] at h3
    omega
  · omega
/-- How many nodes a row takes, laid out plainly. -/
theorem plain_sz (L : List Rn) : (wrapF (itemsF L)).sz = L.length + if L.length = 1 then 0 else 1 := by rw [wrapF_sz, itemsF_sz, itemsF_cnt]
/-- What a row folds into: a table that may be. -/
theorem Items.table {L : List Rn} {f : F} (h : Items L f) (hL : L.length ≤ 96) : ∃ x k, wrapF f = .cons x k .nil ∧ (F.cons x k .nil).ok ∧ one x k.lvs = L ∧ k.dep + 1 ≤ 16 ∧ F.tick x k.len = ticks L ∧ k.sz + 1 ≤ (wrapF (itemsF L)).sz ∧ k.sz + 1 ≤ L.length + 1 := by
  obtain ⟨x, k, e⟩ := wrapF_tree f
  have hc := h.cnt
  have hok : (F.cons x k .nil).ok := by rw [← e]; exact wrapF_ok h.ok hc.1 (by omega)
  have hl : one x k.lvs = L := by
    have := wrapF_lvs f
    rw [e, h.lvs] at this
    simpa [F.lvs] using this
  have hd : k.dep + 1 ≤ 16 := by
    have h1 := (wide_dep h.wide hc.1).1
    rw [h.lvs] at h1
    have h2 := sq_le hL
    have h3 : f.dep < 15 := by
      rcases Nat.lt_or_ge f.dep 15 with h | h
      · exact h
      · have := Nat.pow_le_pow_right (show 0 < 2 by omega) h
        have h4 : 2 ^ 15 = 32768 := by decide
        omega
    have h4 := (wrapF_dep f).1
    rw [e] at h4
    simp only [F.dep] at h4
    omega
  have hs : (wrapF f).sz ≤ (wrapF (itemsF L)).sz := by
    rcases h.sz with e | h1
    · rw [e]; exact Nat.le_refl _
    · rw [wrapF_sz, plain_sz]
      split <;> split <;> omega
  have hp := plain_sz L
  rw [e] at hs
  simp only [F.sz] at hs
  refine ⟨x, k, e, hok, hl, hd, by rw [← hl, one_ticks, lvs_ticks], by omega, ?_⟩
  split at hp <;> omega

theorem tidy_of_apart {L : List Rn} (h : Apart L) : tidy L = L := by
  have := tidyOn_stays L [] (by simpa using h)
  simpa [tidy] using this
/-- A row is its first p, again and again. -/
def Per (L : List Rn) (p : Nat) : Prop := 1 ≤ p ∧ L.length % p = 0 ∧ ∀ i, p ≤ i → i < L.length → L[i]? = L[i - p]?
theorem Per.mod {L : List Rn} {p : Nat} (h : Per L p) (i : Nat) (hi : i < L.length) : L[i]? = L[i % p]? := by
  induction i using Nat.strongRecOn with
  | ind i ih =>
    by_cases hp : p ≤ i
    · rw [h.2.2 i hp hi, ih (i - p) (by have := h.1; omega) (by omega), Nat.mod_eq_sub_mod hp]
    · rw [Nat.mod_eq_of_lt (by omega)]
theorem reps_get (n : Nat) (s : List Rn) (i : Nat) (hi : i < n * s.length) : (reps n s)[i]? = s[i % s.length]? := by
  induction n generalizing i with
  | zero => simp at hi
  | succ n ih =>
    simp only [reps]
    rw [Nat.succ_mul] at hi
    by_cases h : i < s.length
    · rw [List.getElem?_append_left h, Nat.mod_eq_of_lt h]
    · rw [List.getElem?_append_right (by omega), ih _ (by omega), ← Nat.mod_eq_sub_mod (by omega)]
theorem per_reps {L : List Rn} {p : Nat} (n : Nat) (h : Per L p) : Per (reps n L) p := by
  refine ⟨h.1, by rw [reps_length, Nat.mul_mod, h.2.1]; simp, fun i hp hi => ?_⟩
  rw [reps_length] at hi
  have hd : p ∣ L.length := Nat.dvd_of_mod_eq_zero h.2.1
  have hpos : 0 < L.length := by
    rcases Nat.eq_zero_or_pos L.length with e | e
    · rw [e] at hi; simp at hi
    · exact e
  rw [reps_get _ _ _ hi, reps_get _ _ _ (by omega), h.mod _ (Nat.mod_lt _ hpos), h.mod _ (Nat.mod_lt _ hpos), Nat.mod_mod_of_dvd _ hd, Nat.mod_mod_of_dvd _ hd, Nat.mod_eq_sub_mod hp]
theorem per_self {L : List Rn} (h : 1 ≤ L.length) : Per L L.length := ⟨h, Nat.mod_self _, fun i h1 h2 => by omega⟩
/-- Rows without two side by side of one, one behind the other. -/
theorem Apart.tail {r : Rn} {l : List Rn} (h : Apart (r :: l)) : Apart l := by
  cases l with
  | nil => trivial
  | cons q s => exact h.2.2
theorem Apart.append {a b : List Rn} (ha : Apart a) (hb : Apart b) (h : ∀ y x, a.getLast? = some y → b.head? = some x → y.p ≠ x.p) : Apart (a ++ b) := by
  induction a with
  | nil => exact hb
  | cons r a ih =>
    cases a with
    | nil =>
      cases b with
      | nil => simpa using ha
      | cons x s => exact ⟨ha, h r x rfl rfl, hb⟩
    | cons q s => exact ⟨ha.1, ha.2.1, ih ha.tail fun y x hy hx => h y x (by simpa [List.getLast?_cons_cons] using hy) hx⟩
theorem apart_reps {l : List Rn} (n : Nat) (h : Apart l) (hne : ∀ y x, l.getLast? = some y → l.head? = some x → y.p ≠ x.p) : Apart (reps n l) := by
  induction n with
  | zero => trivial
  | succ n ih =>
    refine h.append ih fun y x hy hx => ?_
    cases n with
    | zero => simp [reps] at hx
    | succ n =>
      cases l with
      | nil => simp at hy
      | cons z s => exact hne y x hy (by simpa [reps] using hx)
end Tab
end Go.Proofs.Ytjbflndlfdekiaa

/- Rows that are the same, or not: plain mathematics. -/
namespace Go.Proofs.Ytjbflndlfdekiaa
namespace Tab

def ndEq (x y : Nd) : Bool := decide (x.k = y.k) && decide (x.p = y.p) && decide (x.n = y.n)
theorem ndEq_iff (x y : Nd) : ndEq x y = true ↔ x = y := by
  obtain ⟨a, b, c⟩ := x
  obtain ⟨d, e, f⟩ := y
  unfold ndEq
  simp [Nd.mk.injEq, and_assoc]
def sameN : List Nd → List Nd → Bool
  | [], [] => true
  | x :: a, y :: b => ndEq x y && sameN a b
  | _, _ => false
theorem sameN_iff (a b : List Nd) : sameN a b = true ↔ a = b := by
  induction a generalizing b with
  | nil => cases b <;> simp [sameN]
  | cons x a ih =>
    cases b with
    | nil => simp [sameN]
    | cons y b => simp only [sameN, Bool.and_eq_true, ndEq_iff, ih, List.cons.injEq]
theorem sameN_len {a b : List Nd} (h : ¬ a.length = b.length) : sameN a b = false := by
  cases hs : sameN a b with
  | false => rfl
  | true => rw [sameN_iff] at hs; rw [hs] at h; exact absurd rfl h
def rnEq (x y : Rn) : Bool := decide (x.p = y.p) && decide (x.n = y.n)
theorem rnEq_iff (x y : Rn) : rnEq x y = true ↔ x = y := by
  obtain ⟨a, b⟩ := x
  obtain ⟨d, e⟩ := y
  unfold rnEq
  simp [Rn.mk.injEq]
def sameR : List Rn → List Rn → Bool
  | [], [] => true
  | x :: a, y :: b => rnEq x y && sameR a b
  | _, _ => false
theorem sameR_iff (a b : List Rn) : sameR a b = true ↔ a = b := by
  induction a generalizing b with
  | nil => cases b <;> simp [sameR]
  | cons x a ih =>
    cases b with
    | nil => simp [sameR]
    | cons y b => simp only [sameR, Bool.and_eq_true, rnEq_iff, ih, List.cons.injEq]
theorem sameR_len {a b : List Rn} (h : ¬ a.length = b.length) : sameR a b = false := by
  cases hs : sameR a b with
  | false => rfl
  | true => rw [sameR_iff] at hs; rw [hs] at h; exact absurd rfl h
theorem drop_rn {l : List Rn} {i : Nat} {x : Rn} (h : l[i]? = some x) : l.drop i = x :: l.drop (i + 1) := by
  obtain ⟨hi, e⟩ := List.getElem?_eq_some_iff.1 h
  rw [List.drop_eq_getElem_cons hi, e]
end Tab
end Go.Proofs.Ytjbflndlfdekiaa

/- Rows of nodes, of runs, held against each other in memory: a walk that only reads. -/
namespace Go.Proofs.Ytjbflndlfdekiaa
open Go.RowKit Tab
set_option linter.unusedSimpArgs false
set_option linter.unusedVariables false

/-- It answers v, and turns nothing; it may draw. -/
def Qui (v : Value) (w : World) (e : Ending) (w' : World) : Prop := e = .returned v ∧ ∃ m, w' = w.drewN m
theorem Qui.ans {v : Value} {w w' : World} {e : Ending} (h : Qui v w e w') : Ans v w e w' := by
  obtain ⟨h1, m, rfl⟩ := h
  exact ⟨h1, Below.drewN (Below.refl _ _) m⟩
/-- In a quiet walk behind draws. -/
theorem Qui.sum {P : Program} {f : FuncId} {args : Array Value} {w : World} {q n : Nat} {v : Value} (h : Calls P f args (w.drewN (q + n)) (Qui v (w.drewN (q + n)))) : Calls P f args (w.drewN (q + n)) fun e w'' => e = .returned v ∧ ∃ m, w'' = w.drewN (q + m) :=
  h.mono fun _ _ ⟨he, m, hm⟩ => ⟨he, n + m, by rw [hm, World.drewN_drewN, Nat.add_assoc]⟩
theorem nd_neqs (x y : Nd) (W : World) : (binOp .neq 53 (nd x.k x.p x.n) (nd y.k y.p y.n)).run Try.prog W = .ok (.bool (!(ndEq x y))) W := by
  obtain ⟨a, b, c⟩ := x
  obtain ⟨d, e, f⟩ := y
  unfold ndEq
  by_cases h1 : a = d
  · by_cases h2 : b = e
    · by_cases h3 : c = f
      · subst h1; subst h2; subst h3
        simp [run_neq_struct, go_sem]
      · subst h1; subst h2
        simp [run_neq_struct, go_sem, h3]
    · subst h1
      simp [run_neq_struct, go_sem, h2]
  · simp [run_neq_struct, go_sem, h1]
theorem rn_neqs (x y : Rn) (W : World) : (binOp .neq 41 (rv x.p (x.n : Int)) (rv y.p (y.n : Int))).run Try.prog W = .ok (.bool (!(rnEq x y))) W := by
  obtain ⟨a, b⟩ := x
  obtain ⟨d, e⟩ := y
  unfold rnEq
  by_cases h1 : a = d
  · by_cases h2 : b = e
    · subst h1; subst h2
      simp [run_neq_struct, go_sem]
    · subst h1
      have h3 : ¬ (b : Int) = (e : Int) := by omega
      simp [run_neq_struct, go_sem, h2, h3]
  · simp [run_neq_struct, go_sem, h1]
set_option maxRecDepth 100000 in
set_option maxHeartbeats 1600000 in
theorem eqn_any (A1 A2 : Option Addr) (n m c1 c2 : Nat) (l1 l2 : List Nd) (w : World) (h1 : RdN w w.heap.size A1 n l1) (h2 : RdN w w.heap.size A2 m l2) (hn : n ≤ 1048576) :
    Calls Try.prog 52 #[.slice A1 n c1, .slice A2 m c2] w (Qui (.bool (sameN l1 l2)) w) := by
  by_cases hnm : n = m
  · subst hnm
    generalize hb : sameN l1 l2 = b
    have HB := Lib.hid hb
    clear hb
    go_enter Try.func52, Try.ntmps52
    go_wp2_with fail
    go_loopw [5, 13] (fun _ s wr => ∃ i q : Nat, i ≤ n ∧ s = .int .i64 i ∧ sameN (l1.drop i) (l2.drop i) = b ∧ wr = w.drewN q) (fun _ s _ => n - (intOf s).toNat)
    case atStart => exact ⟨0, 0, by omega, rfl, by simpa using HB.out, rfl⟩
    case round =>
      obtain ⟨i, q, hi, rfl, hs, rfl⟩ := hrel
      have HS := Lib.hid hs
      clear hs
      by_cases hlt : i < n
      · obtain ⟨ad, x, rfl, _, hx, hin, c0, c1', c2'⟩ := h1.at_ hlt
        obtain ⟨ad2, y, rfl, _, hy, hin2, d0, d1, d2⟩ := h2.at_ hlt
        have e1 := drop_cons hx
        have e2 := drop_cons hy
        have hst := HS.out
        rw [e1, e2] at hst
        simp only [sameN] at hst
        have HST := Lib.hid hst
        have hne := fun W => nd_neqs x y W
        obtain ⟨xk, xp, xn⟩ := x
        obtain ⟨yk, yp, yn⟩ := y
        dsimp only at c0 c1' c2' d0 d1 d2 hne
        clear hx hy hin hin2 e1 e2 hst HS
        generalize hE : ndEq ⟨xk, xp, xn⟩ ⟨yk, yp, yn⟩ = E at HST hne
        clear hE
        cases E with
        | true =>
          have hne : ∀ W, (binOp .neq 53 (nd xk xp xn) (nd yk yp yn)).run Try.prog W = .ok (.bool false) W := hne
          go_wp2_with fail
          go_quiet (fail)
          go_wp2_with fail
          go_roundw
          case rel => exact ⟨i + 1, q + nq, by omega, by go_num, by simpa using HST.out, rfl⟩
          case measure => simp [intOf]; omega
        | false =>
          have hne : ∀ W, (binOp .neq 53 (nd xk xp xn) (nd yk yp yn)).run Try.prog W = .ok (.bool true) W := hne
          go_wp2_with fail
          go_quiet (fail)
          go_wp2_with fail
          go_ret
          exact ⟨by have := HST.out; simp at this; rw [← this]; rfl, q + nq, by rw [World.drewN_drewN]⟩
      · have hge : n ≤ i := by omega
        have e1 : l1.drop i = [] := List.drop_eq_nil_of_le (by rw [h1.len]; exact hge)
        have e2 : l2.drop i = [] := List.drop_eq_nil_of_le (by rw [h2.len]; exact hge)
        have hst := HS.out
        rw [e1, e2] at hst
        have HST := Lib.hid hst
        clear hst HS e1 e2
        go_wp2_with fail
        go_ret
        exact ⟨by rw [← HST.out]; rfl, q, rfl⟩
  · have hb := sameN_len (a := l1) (b := l2) (by rw [h1.len, h2.len]; exact hnm)
    rw [hb]
    have h3 : ((n : Int) == (m : Int)) = false := beq_eq_false_iff_ne.2 (by omega)
    have h4 : ((n : Int) != (m : Int)) = true := by rw [bne, h3]; rfl
    clear hb h1 h2
    go_enter Try.func52, Try.ntmps52
    go_wp2_with fail
    go_ret
    exact ⟨rfl, 0, rfl⟩
set_option maxHeartbeats 400000 in
theorem nsame_any (A1 A2 : Option Addr) (n m c1 c2 : Nat) (l1 l2 : List Nd) (w : World) (h1 : RdN w w.heap.size A1 n l1) (h2 : RdN w w.heap.size A2 m l2) (hn : n ≤ 1048576) :
    Calls Try.prog 45 #[.slice A1 n c1, .slice A2 m c2] w (Qui (.bool (sameN l1 l2)) w) := by
  have H := Lib.hid (eqn_any A1 A2 n m c1 c2 l1 l2 w h1 h2 hn)
  clear h1 h2
  generalize sameN l1 l2 = b at H ⊢
  go_enter Try.func45, Try.ntmps45
  go_wp2_with fail
  refine H.out.mono ?_
  rintro e w1 ⟨rfl, q, rfl⟩
  go_wp2_with fail
  go_ret
  exact ⟨rfl, q, rfl⟩
set_option maxRecDepth 100000 in
set_option maxHeartbeats 1600000 in
theorem eqr_any (A1 A2 : Option Addr) (n m c1 c2 : Nat) (l1 l2 : List Rn) (w : World) (h1 : RdR w w.heap.size A1 n l1) (h2 : RdR w w.heap.size A2 m l2) (hn : n ≤ 1048576) :
    Calls Try.prog 43 #[.slice A1 n c1, .slice A2 m c2] w (Qui (.bool (sameR l1 l2)) w) := by
  by_cases hnm : n = m
  · subst hnm
    generalize hb : sameR l1 l2 = b
    have HB := Lib.hid hb
    clear hb
    go_enter Try.func43, Try.ntmps43
    go_wp2_with fail
    go_loopw [5, 13] (fun _ s wr => ∃ i q : Nat, i ≤ n ∧ s = .int .i64 i ∧ sameR (l1.drop i) (l2.drop i) = b ∧ wr = w.drewN q) (fun _ s _ => n - (intOf s).toNat)
    case atStart => exact ⟨0, 0, by omega, rfl, by simpa using HB.out, rfl⟩
    case round =>
      obtain ⟨i, q, hi, rfl, hs, rfl⟩ := hrel
      have HS := Lib.hid hs
      clear hs
      by_cases hlt : i < n
      · obtain ⟨ad, x, rfl, _, hx, c0, c1'⟩ := h1.at_ hlt
        obtain ⟨ad2, y, rfl, _, hy, d0, d1⟩ := h2.at_ hlt
        have e1 := drop_rn hx
        have e2 := drop_rn hy
        have hst := HS.out
        rw [e1, e2] at hst
        simp only [sameR] at hst
        have HST := Lib.hid hst
        have hne := fun W => rn_neqs x y W
        obtain ⟨xp, xn⟩ := x
        obtain ⟨yp, yn⟩ := y
        dsimp only at c0 c1' d0 d1 hne
        clear hx hy e1 e2 hst HS
        generalize hE : rnEq ⟨xp, xn⟩ ⟨yp, yn⟩ = E at HST hne
        clear hE
        cases E with
        | true =>
          have hne : ∀ W, (binOp .neq 41 (rv xp (xn : Int)) (rv yp (yn : Int))).run Try.prog W = .ok (.bool false) W := hne
          go_wp2_with fail
          go_quiet (fail)
          go_wp2_with fail
          go_roundw
          case rel => exact ⟨i + 1, q + nq, by omega, by go_num, by simpa using HST.out, rfl⟩
          case measure => simp [intOf]; omega
        | false =>
          have hne : ∀ W, (binOp .neq 41 (rv xp (xn : Int)) (rv yp (yn : Int))).run Try.prog W = .ok (.bool true) W := hne
          go_wp2_with fail
          go_quiet (fail)
          go_wp2_with fail
          go_ret
          exact ⟨by have := HST.out; simp at this; rw [← this]; rfl, q + nq, by rw [World.drewN_drewN]⟩
      · have hge : n ≤ i := by omega
        have e1 : l1.drop i = [] := List.drop_eq_nil_of_le (by rw [h1.len]; exact hge)
        have e2 : l2.drop i = [] := List.drop_eq_nil_of_le (by rw [h2.len]; exact hge)
        have hst := HS.out
        rw [e1, e2] at hst
        have HST := Lib.hid hst
        clear hst HS e1 e2
        go_wp2_with fail
        go_ret
        exact ⟨by rw [← HST.out]; rfl, q, rfl⟩
  · have hb := sameR_len (a := l1) (b := l2) (by rw [h1.len, h2.len]; exact hnm)
    rw [hb]
    have h3 : ((n : Int) == (m : Int)) = false := beq_eq_false_iff_ne.2 (by omega)
    have h4 : ((n : Int) != (m : Int)) = true := by rw [bne, h3]; rfl
    clear hb h1 h2
    go_enter Try.func43, Try.ntmps43
    go_wp2_with fail
    go_ret
    exact ⟨rfl, 0, rfl⟩
set_option maxHeartbeats 400000 in
theorem rsame_any (A1 A2 : Option Addr) (n m c1 c2 : Nat) (l1 l2 : List Rn) (w : World) (h1 : RdR w w.heap.size A1 n l1) (h2 : RdR w w.heap.size A2 m l2) (hn : n ≤ 1048576) :
    Calls Try.prog 27 #[.slice A1 n c1, .slice A2 m c2] w (Qui (.bool (sameR l1 l2)) w) := by
  have H := Lib.hid (eqr_any A1 A2 n m c1 c2 l1 l2 w h1 h2 hn)
  clear h1 h2
  generalize sameR l1 l2 = b at H ⊢
  go_enter Try.func27, Try.ntmps27
  go_wp2_with fail
  refine H.out.mono ?_
  rintro e w1 ⟨rfl, q, rfl⟩
  go_wp2_with fail
  go_ret
  exact ⟨rfl, q, rfl⟩
set_option maxRecDepth 100000 in
set_option maxHeartbeats 1600000 in
theorem xsame_any (A1 A2 : Option Addr) (n m c1 c2 : Nat) (l1 l2 : List Rn) (w : World) (h1 : RdR w w.heap.size A1 n l1) (h2 : RdR w w.heap.size A2 m l2) (hn : n ≤ 1048576) :
    Calls Try.prog 14 #[.slice A1 n c1, .slice A2 m c2] w (Qui (.bool (sameR l1 l2)) w) := by
  by_cases hnm : n = m
  · subst hnm
    generalize hb : sameR l1 l2 = b
    have HB := Lib.hid hb
    clear hb
    go_enter Try.func14, Try.ntmps14
    go_wp2_with fail
    go_loopw [5, 13] (fun _ s wr => ∃ i q : Nat, i ≤ n ∧ s = .int .i64 i ∧ sameR (l1.drop i) (l2.drop i) = b ∧ wr = w.drewN q) (fun _ s _ => n - (intOf s).toNat)
    case atStart => exact ⟨0, 0, by omega, rfl, by simpa using HB.out, rfl⟩
    case round =>
      obtain ⟨i, q, hi, rfl, hs, rfl⟩ := hrel
      have HS := Lib.hid hs
      clear hs
      by_cases hlt : i < n
      · obtain ⟨ad, x, rfl, _, hx, c0, c1'⟩ := h1.at_ hlt
        obtain ⟨ad2, y, rfl, _, hy, d0, d1⟩ := h2.at_ hlt
        have e1 := drop_rn hx
        have e2 := drop_rn hy
        have hst := HS.out
        rw [e1, e2] at hst
        simp only [sameR] at hst
        have HST := Lib.hid hst
        have hne := fun W => rn_neqs x y W
        obtain ⟨xp, xn⟩ := x
        obtain ⟨yp, yn⟩ := y
        dsimp only at c0 c1' d0 d1 hne
        clear hx hy e1 e2 hst HS
        generalize hE : rnEq ⟨xp, xn⟩ ⟨yp, yn⟩ = E at HST hne
        clear hE
        cases E with
        | true =>
          have hne : ∀ W, (binOp .neq 41 (rv xp (xn : Int)) (rv yp (yn : Int))).run Try.prog W = .ok (.bool false) W := hne
          go_wp2_with fail
          go_quiet (fail)
          go_wp2_with fail
          go_roundw
          case rel => exact ⟨i + 1, q + nq, by omega, by go_num, by simpa using HST.out, rfl⟩
          case measure => simp [intOf]; omega
        | false =>
          have hne : ∀ W, (binOp .neq 41 (rv xp (xn : Int)) (rv yp (yn : Int))).run Try.prog W = .ok (.bool true) W := hne
          go_wp2_with fail
          go_quiet (fail)
          go_wp2_with fail
          go_ret
          exact ⟨by have := HST.out; simp at this; rw [← this]; rfl, q + nq, by rw [World.drewN_drewN]⟩
      · have hge : n ≤ i := by omega
        have e1 : l1.drop i = [] := List.drop_eq_nil_of_le (by rw [h1.len]; exact hge)
        have e2 : l2.drop i = [] := List.drop_eq_nil_of_le (by rw [h2.len]; exact hge)
        have hst := HS.out
        rw [e1, e2] at hst
        have HST := Lib.hid hst
        clear hst HS e1 e2
        go_wp2_with fail
        go_ret
        exact ⟨by rw [← HST.out]; rfl, q, rfl⟩
  · have hb := sameR_len (a := l1) (b := l2) (by rw [h1.len, h2.len]; exact hnm)
    rw [hb]
    have h3 : ((n : Int) == (m : Int)) = false := beq_eq_false_iff_ne.2 (by omega)
    have h4 : ((n : Int) != (m : Int)) = true := by rw [bne, h3]; rfl
    clear hb h1 h2
    go_enter Try.func14, Try.ntmps14
    go_wp2_with fail
    go_ret
    exact ⟨rfl, 0, rfl⟩
end Go.Proofs.Ytjbflndlfdekiaa
