import Derived.Test.YtfmndmhjjbeokaaGreatDoorLow31
import Derived.Test.YtfmndmhjjbeokaaGreatDoorLow29
import Derived.Test.YtfmndmhjjbeokaaGreatDoorLow25
namespace Go.Proofs.YtfmndmhjjbeokaaGreatDoor
namespace Txt
open Tab
set_option linter.unusedSimpArgs false
set_option linter.unusedVariables false
def numL (m : Nat) : Nat → List UInt8 → Option (Nat × List UInt8)
  | n, [] => if n = 0 then none else some (n, [])
  | n, c :: r => if isD c = true then (if m < n * 10 + (c.toNat - 48) then none else numL m (n * 10 + (c.toNat - 48)) r) else if n = 0 then none else some (n, c :: r)
theorem numL_cons (m n : Nat) (c : UInt8) (r : List UInt8) : numL m n (c :: r) = if isD c = true then (if m < n * 10 + (c.toNat - 48) then none else numL m (n * 10 + (c.toNat - 48)) r) else if n = 0 then none else some (n, c :: r) := rfl
def numS (m : Nat) : List UInt8 → Option (Nat × List UInt8)
  | [] => none
  | c :: r => if c = 48 then some (0, r) else numL m 0 (c :: r)
theorem numS_cons (m : Nat) (c : UInt8) (r : List UInt8) : numS m (c :: r) = if c = 48 then some (0, r) else numL m 0 (c :: r) := rfl
theorem numL_end {m n : Nat} (hn : n ≠ 0) {t : List UInt8} (ht : ∀ c, t.head? = some c → isD c = false) : numL m n t = some (n, t) := by
  cases t with
  | nil => unfold numL; rw [if_neg hn]
  | cons c r => rw [numL_cons, ht c rfl, if_neg (by decide), if_neg hn]
theorem numL_num (m : Nat) (t : List UInt8) : ∀ n, 1 ≤ n → n ≤ m → numL m 0 (numB n ++ t) = numL m n t := by
  intro n
  induction n using Nat.strongRecOn generalizing t with
  | ind n ih =>
    intro h1 hn
    rcases Nat.lt_or_ge n 10 with h | h
    · rw [numB_low h]
      show numL m 0 (dg n :: t) = _
      rw [numL_cons, dg_isD h, if_pos rfl, dg_nat h, show 0 * 10 + (48 + n - 48) = n by omega, if_neg (by omega)]
    · rw [numB_high h, List.append_assoc, ih (n / 10) (by omega) _ (by omega) (by omega)]
      show numL m (n / 10) (dg (n % 10) :: t) = _
      rw [numL_cons, dg_isD (by omega), if_pos rfl, dg_nat (by omega), show n / 10 * 10 + (48 + n % 10 - 48) = n by omega, if_neg (by omega)]
theorem numS_num {m n : Nat} (hn : n ≤ m) {t : List UInt8} (ht : ∀ c, t.head? = some c → isD c = false) : numS m (numB n ++ t) = some (n, t) := by
  rcases Nat.eq_zero_or_pos n with rfl | h
  · rfl
  · have h1 := numL_num m t n h hn
    have h2 := num_head n h
    have h3 := num_pos n
    cases e : numB n with
    | nil => rw [e] at h3; exact absurd h3 (by decide)
    | cons c r =>
      rw [e] at h1 h2
      rw [List.cons_append] at h1 ⊢
      rw [numS_cons, if_neg (fun e => h2 (by rw [e]; rfl)), h1, numL_end (by omega) ht]
theorem isD_nat {c : UInt8} (h : isD c = true) : 48 ≤ c.toNat ∧ c.toNat ≤ 57 := by
  unfold isD at h
  simpa only [Bool.and_eq_true, decide_eq_true_eq] using h
theorem dg_of {c : UInt8} (h : isD c = true) : dg (c.toNat - 48) = c := by
  have := isD_nat h
  apply UInt8.toNat_inj.1
  rw [dg_nat (by omega)]
  omega
theorem valL_inv (m : Nat) : ∀ (k : Nat) (w : List UInt8) (n : Nat), w.length ≤ k → valL m 0 w = some n → w ≠ [] → (w.length = 1 ∨ w.head? ≠ some 48) → w = numB n ∧ (w.head? ≠ some 48 → 0 < n)
  | 0, w, n, hk, _, h0, _ => absurd (List.eq_nil_of_length_eq_zero (by omega)) h0
  | k + 1, w, n, hk, h, h0, h1 => by
    obtain ⟨u, c, rfl⟩ : ∃ u c, w = u ++ [c] := ⟨w.dropLast, w.getLast h0, (List.dropLast_concat_getLast h0).symm⟩
    rw [valL_app] at h
    cases hu : valL m 0 u with
    | none => rw [hu] at h; cases h
    | some a =>
      rw [hu] at h
      change valL m a [c] = some n at h
      rw [valL_cons] at h
      split at h
      · rename_i hc
        simp only [Bool.and_eq_true, decide_eq_true_eq] at hc
        have hd := isD_nat hc.1
        change some (a * 10 + (c.toNat - 48)) = some n at h
        injection h with h
        cases u with
        | nil =>
          have ha : a = 0 := by
            change some 0 = some a at hu
            injection hu with hu
            exact hu.symm
          subst ha
          have hn : n = c.toNat - 48 := by omega
          refine ⟨?_, fun hne => ?_⟩
          · rw [numB_low (by omega), hn, dg_of hc.1]; rfl
          · rcases Nat.eq_zero_or_pos n with h3 | h3
            · exact absurd (congrArg some (UInt8.toNat_inj.1 (show c.toNat = (48 : UInt8).toNat by rw [show (48 : UInt8).toNat = 48 from rfl]; omega))) hne
            · exact h3
        | cons x u =>
          have hx : (x :: u).head? ≠ some 48 := by
            rcases h1 with h1 | h1
            · simp at h1
            · exact h1
          have hl : (x :: u).length ≤ k := by rw [List.length_append] at hk; simp only [List.length_cons, List.length_nil] at hk ⊢; omega
          obtain ⟨i1, i2⟩ := valL_inv m k (x :: u) a hl hu (by simp) (.inr hx)
          have ha := i2 hx
          refine ⟨?_, fun _ => by omega⟩
          rw [numB_high (show 10 ≤ n by omega), show n / 10 = a by omega, show n % 10 = c.toNat - 48 by omega, dg_of hc.1, ← i1]
      · cases h
theorem valF_inv {m : Nat} {w : List UInt8} (h : (valF m w).2 = true) : w = numB (valF m w).1 ∧ (valF m w).1 ≤ m := by
  unfold valF at h ⊢
  split at h
  · cases h
  · rename_i a ha
    simp only [Bool.and_eq_true, Bool.or_eq_true, decide_eq_true_eq, Bool.not_eq_true', decide_eq_false_iff_not] at h
    obtain ⟨h1, h2, h3⟩ := h
    exact ⟨(valL_inv m _ w a (Nat.le_refl _) ha (fun e => by rw [e] at h1; exact absurd h1 (by decide)) h3).1, h2⟩
theorem behind_head (p : UInt8 → Bool) (s : List UInt8) : ∀ c, (behindT p s).head? = some c → p c = true := by
  intro c h
  have := List.head?_dropWhile_not (fun c => !p c) s
  unfold behindT at h
  rw [h] at this
  simpa using this
theorem ahead_behind (p : UInt8 → Bool) (s : List UInt8) : aheadT p s ++ behindT p s = s := List.takeWhile_append_dropWhile
theorem numT_numS {s : List UInt8} {x : Nat × List UInt8} (h : numT s = some x) : numS lim40 s = some x := by
  unfold numT at h
  split at h
  · rename_i hv
    obtain ⟨h1, h2⟩ := valF_inv hv
    injection h with h
    subst h
    have e := ahead_behind st3 s
    rw [h1] at e
    have := numS_num (m := lim40) h2 (t := behindT st3 s) fun c hc => by
      have h3 := behind_head st3 s c hc
      cases hd : isD c with
      | false => rfl
      | true => rw [isD_st3 hd] at h3; cases h3
    rw [e] at this
    exact this
  · cases h
def winS (whose : List UInt8 → Option (Int × List UInt8)) (s : List UInt8) : Option (List Nd × List UInt8) := match whose s with
  | none => none
  | some p => match takeB 58 p.2 with
    | none => none
    | some r => (numS lim40 r).map fun x => ([⟨1, p.1, x.1⟩], x.2)
def repS (f : Nat → List UInt8 → Option (List Nd × List UInt8)) (rm : Nat) (s : List UInt8) : Option (List Nd × List UInt8) := match numS lim40 s with
  | none => none
  | some v => match takeB 40 v.2 with
    | none => none
    | some s2 => match f rm s2 with
      | none => none
      | some x => (takeB 41 x.2).map fun s4 => (⟨4, 0, v.1⟩ :: x.1, s4)
def stepS (whose : List UInt8 → Option (Int × List UInt8)) (f : Nat → List UInt8 → Option (List Nd × List UInt8)) : Nat → List UInt8 → Option (List Nd × List UInt8)
  | 0, _ => none
  | _ + 1, [] => none
  | rm + 1, c :: s => if c = 119 then winS whose s else if c = 105 then (numS lim40 s).map fun x => ([⟨2, 0, x.1⟩], x.2) else if c = 115 then seqT f rm s else if c = 114 then repS f rm s else none
theorem stepS_cons (whose : List UInt8 → Option (Int × List UInt8)) (f : Nat → List UInt8 → Option (List Nd × List UInt8)) (rm : Nat) (c : UInt8) (s : List UInt8) : stepS whose f (rm + 1) (c :: s) = if c = 119 then winS whose s else if c = 105 then (numS lim40 s).map fun x => ([⟨2, 0, x.1⟩], x.2) else if c = 115 then seqT f rm s else if c = 114 then repS f rm s else none := rfl
def nodeS (whose : List UInt8 → Option (Int × List UInt8)) : Nat → Nat → List UInt8 → Option (List Nd × List UInt8)
  | 0 => fun _ _ => none
  | lv + 1 => stepS whose (nodeS whose lv)
def tableS (whose : List UInt8 → Option (Int × List UInt8)) (s : List UInt8) : Option (List Nd × List UInt8) := nodeS whose 16 128 s
def LookS (look : List UInt8 → Int) (whose : List UInt8 → Option (Int × List UInt8)) : Prop := ∀ s r, 0 ≤ look (aheadT st4 s) → takeB 58 (behindT st4 s) = some r → whose s = some (look (aheadT st4 s), behindT st4 s)
theorem kids_more {f g : Nat → List UInt8 → Option (List Nd × List UInt8)} (h : ∀ rm s x, f rm s = some x → g rm s = some x) : ∀ (k rm : Nat) (s : List UInt8) (y : List Nd × Nat × List UInt8), kidsR f k rm s = some y → kidsR g k rm s = some y
  | 0, _, _, _, hy => by cases hy
  | k + 1, rm, s, y, hy => by
    rw [kidsR_succ] at hy ⊢
    split at hy
    · exact hy
    · split at hy
      · cases hy
      · rename_i s1 _ x hx
        rw [h _ _ _ hx]
        split at hy
        · cases hy
        · rename_i z hz
          dsimp only
          rw [kids_more h k _ _ _ hz]
          exact hy
theorem seq_more {f g : Nat → List UInt8 → Option (List Nd × List UInt8)} (h : ∀ rm s x, f rm s = some x → g rm s = some x) {rm : Nat} {s : List UInt8} {y : List Nd × List UInt8} (hy : seqT f rm s = some y) : seqT g rm s = some y := by
  unfold seqT at hy ⊢
  split at hy
  · cases hy
  · split at hy
    · cases hy
    · rename_i s1 _ x hx
      rw [h _ _ _ hx]
      split at hy
      · cases hy
      · rename_i z hz
        dsimp only
        rw [kids_more h _ _ _ _ hz]
        exact hy
theorem nodeR_S {look : List UInt8 → Int} {whose : List UInt8 → Option (Int × List UInt8)} (hl : LookS look whose) : ∀ (lv rm : Nat) (s : List UInt8) (x : List Nd × List UInt8), nodeR look lv rm s = some x → nodeS whose lv rm s = some x
  | 0, _, _, _, h => by cases h
  | lv + 1, 0, _, _, h => by cases h
  | lv + 1, rm + 1, [], _, h => by cases h
  | lv + 1, rm + 1, c :: s, x, h => by
    change stepR look (nodeR look lv) (rm + 1) (c :: s) = some x at h
    show stepS whose (nodeS whose lv) (rm + 1) (c :: s) = some x
    rw [stepR_cons] at h
    rw [stepS_cons]
    split at h
    · rename_i hc
      rw [if_pos hc]
      unfold winT at h
      unfold winS
      split at h
      · cases h
      · rename_i hp
        split at h
        · cases h
        · rename_i r hr
          rw [hl s r (by omega) hr]
          dsimp only
          rw [hr]
          cases hn : numT r with
          | none => rw [hn] at h; cases h
          | some v => rw [hn] at h; dsimp only; rw [numT_numS hn]; exact h
    · rename_i hc
      rw [if_neg hc]
      split at h
      · rename_i hc
        rw [if_pos hc]
        cases hn : numT s with
        | none => rw [hn] at h; cases h
        | some v => rw [hn] at h; rw [numT_numS hn]; exact h
      · rename_i hc
        rw [if_neg hc]
        split at h
        · rename_i hc
          rw [if_pos hc]
          exact seq_more (nodeR_S hl lv) h
        · rename_i hc
          rw [if_neg hc]
          split at h
          · rename_i hc
            rw [if_pos hc]
            unfold repT at h
            unfold repS
            split at h
            · cases h
            · rename_i v hv
              rw [numT_numS hv]
              dsimp only
              split at h
              · cases h
              · rename_i s2 h2
                rw [h2]
                dsimp only
                split at h
                · cases h
                · rename_i y hy
                  rw [nodeR_S hl lv _ _ _ hy]
                  exact h
          · cases h
theorem tableR_S {look : List UInt8 → Int} {whose : List UInt8 → Option (Int × List UInt8)} (hl : LookS look whose) {s : List UInt8} {l : List Nd} (h : tableR look s = some l) : tableS whose s = some (l, []) := by
  have hg := nodeR_S hl 16 128 s
  unfold tableR at h
  unfold tableS
  generalize nodeR look 16 128 s = R at h hg
  generalize nodeS whose 16 128 s = R' at hg ⊢
  cases R with
  | none => cases h
  | some x =>
    have h : (if x.2 = [] then some x.1 else none) = some l := h
    rw [hg x rfl]
    split at h
    · rename_i he
      injection h with h
      rw [← h, ← he]
    · cases h
end Txt
end Go.Proofs.YtfmndmhjjbeokaaGreatDoor
namespace Go.Proofs.YtfmndmhjjbeokaaGreatDoor
namespace Txt
open Tab
set_option linter.unusedSimpArgs false
set_option linter.unusedVariables false
def Got {α : Type} (R : Option (α × List UInt8)) (v : α) (st : Option (List UInt8)) : Prop := st = R.map (·.2) ∧ ∀ x, R = some x → v = x.1
theorem Got.bind {α β : Type} {st st' : Option (List UInt8)} {f : List UInt8 → Option (α × List UInt8)} {v : α} (h : Got (st.bind f) v st') (k : α → List UInt8 → Option β) : (st.bind fun s => (f s).bind fun x => k x.1 x.2) = st'.bind fun s => k v s := by
  obtain ⟨rfl, h2⟩ := h
  cases st with
  | none => rfl
  | some s =>
    cases e : f s with
    | none => show (f s).bind _ = ((f s).map _).bind _; rw [e]; rfl
    | some x =>
      have := h2 x (by show f s = _; rw [e])
      show (f s).bind _ = ((f s).map _).bind _
      rw [e, this]
      rfl
theorem must_bind {β : Type} (st : Option (List UInt8)) (b : UInt8) (k : List UInt8 → Option β) : (st.bind fun s => (takeB b s).bind k) = (st.bind (takeB b)).bind k := (Option.bind_assoc _ _ _).symm
theorem Got.end_ {α : Type} (v : α) (st : Option (List UInt8)) : Got (st.bind fun s => some (v, s)) v st := by
  cases st with
  | none => exact ⟨rfl, fun x h => by cases h⟩
  | some s => exact ⟨rfl, fun x h => by injection h with h; rw [← h]⟩
def isB (b c : UInt8) : Bool := decide (c = b)
def nameS (s : List UInt8) : Option (List UInt8 × List UInt8) := if nameF (bsOf (aheadT (isB 32) s)) = true then some (aheadT (isB 32) s, behindT (isB 32) s) else none
def knownS (names : List (List UInt8)) (b : UInt8) (s : List UInt8) : Option (Int × List UInt8) := if findF names (aheadT (isB b) s) < 0 then none else some (findF names (aheadT (isB b) s), behindT (isB b) s)
def numW (s : List UInt8) : Option (Int × List UInt8) := (numS lim40 s).map fun x => ((x.1 : Int), x.2)
def numZ (m : Nat) (s : List UInt8) : Option (Int × List UInt8) := (numS m s).map fun x => ((x.1 : Int), x.2)
def flagS (s : List UInt8) : Option ((Bool × Bool) × List UInt8) := match takeB 45 s with
  | some r => some ((false, false), r)
  | none => match takeB 115 s with
    | some r => match takeB 116 r with
      | some q => some ((true, true), q)
      | none => some ((true, false), r)
    | none => (takeB 116 s).map fun r => ((false, true), r)
def dgS (c : UInt8) : Bool := decide (48 ≤ c.toNat ∧ c.toNat ≤ 50)
def healS : Nat → List UInt8 → Option (List Int × List UInt8)
  | 0, s => some ([], s)
  | _ + 1, [] => none
  | k + 1, c :: r => if dgS c = true then (healS k r).map fun x => (((c.toNat : Int) - 48) :: x.1, x.2) else none
theorem healS_cons (k : Nat) (c : UInt8) (r : List UInt8) : healS (k + 1) (c :: r) = if dgS c = true then (healS k r).map fun x => (((c.toNat : Int) - 48) :: x.1, x.2) else none := rfl
def procS (s : List UInt8) : Option ((Int × Int) × List UInt8) := (numW s).bind fun e => (takeB 58 e.2).bind fun r => (numW r).bind fun q => some ((e.1, q.1), q.2)
def procsS : Nat → List UInt8 → Option (List (Int × Int) × List UInt8)
  | 0, _ => none
  | k + 1, s => match procS s with
    | none => none
    | some x => match takeB 44 x.2 with
      | none => some ([x.1], x.2)
      | some r => (procsS k r).map fun y => (x.1 :: y.1, y.2)
theorem procsS_succ (k : Nat) (s : List UInt8) : procsS (k + 1) s = match procS s with
    | none => none
    | some x => match takeB 44 x.2 with
      | none => some ([x.1], x.2)
      | some r => (procsS k r).map fun y => (x.1 :: y.1, y.2) := rfl
def procsA (s : List UInt8) : Option (List (Int × Int) × List UInt8) := procsS (s.length + 1) s
def partV (nm : List UInt8) (b p : Int) (f : Bool × Bool) (h : List Int) (L : List (Int × Int)) : Pq := (⟨bsOf nm, b, p, f.1, f.2, none, L.length, L.length, h.getD 0 0, h.getD 1 0, h.getD 2 0, h.getD 3 0, h.getD 4 0⟩, L)
def partS (s : List UInt8) : Option (Pq × List UInt8) :=
  (takeB 32 s).bind fun s => (nameS s).bind fun nm => (takeB 32 nm.2).bind fun s => (numW s).bind fun b => (takeB 32 b.2).bind fun s => (numW s).bind fun p => (takeB 32 p.2).bind fun s => (flagS s).bind fun f => (takeB 32 f.2).bind fun s => (healS 5 s).bind fun h => (takeB 32 h.2).bind fun s => (procsA s).bind fun L => some (partV nm.1 b.1 p.1 f.1 h.1 L.1, L.2)
def kindS (s : List UInt8) : Option ((Bool × Int) × List UInt8) := match takeB 113 s with
  | some r => (numW r).map fun x => ((true, x.1), x.2)
  | none => (takeB 115 s).map fun r => ((false, 0), r)
def chanS (names : List (List UInt8)) (s : List UInt8) : Option (ChV × List UInt8) :=
  (takeB 32 s).bind fun s => (knownS names 32 s).bind fun a => (takeB 32 a.2).bind fun s => (knownS names 32 s).bind fun b => (takeB 32 b.2).bind fun s => (kindS s).bind fun k => (takeB 32 k.2).bind fun s => (numZ lim32 s).bind fun m => (takeB 32 m.2).bind fun s => (numW s).bind fun l => some (⟨a.1, b.1, k.1.1, k.1.2, m.1, l.1⟩, l.2)
def tabS (names : List (List UInt8)) (s : List UInt8) : Option (NdT × List UInt8) :=
  (takeB 32 s).bind fun s => (tableS (knownS names 58) s).bind fun t => some (ndT0 t.1, t.2)
def lineS (c : Cft) (s : List UInt8) : Option (Cft × List UInt8) :=
  if s = [] ∨ s.head? = some 35 then some (c, []) else
  if aheadT (isB 32) s = wPart then (partS (behindT (isB 32) s)).map fun x => (⟨c.P ++ [x.1], c.C, c.T⟩, x.2)
  else if aheadT (isB 32) s = wChan then (chanS (namesP c.P) (behindT (isB 32) s)).map fun x => (⟨c.P, c.C ++ [x.1], c.T⟩, x.2)
  else if aheadT (isB 32) s = wTable then (tabS (namesP c.P) (behindT (isB 32) s)).map fun x => (⟨c.P, c.C, c.T ++ [x.1]⟩, x.2)
  else none
def lineD (c : Cft) (s : List UInt8) : Option Cft := match lineS c s with
  | none => none
  | some x => if x.2 = [] then some x.1 else none
def linesQ : Nat → Cft → List (List UInt8) → Nat ⊕ Cft
  | _, c, [] => .inr c
  | i, c, x :: l => match lineD c x with
    | none => .inl (i + 1)
    | some c' => linesQ (i + 1) c' l
theorem linesQ_cons (i : Nat) (c : Cft) (x : List UInt8) (l : List (List UInt8)) : linesQ i c (x :: l) = match lineD c x with
    | none => .inl (i + 1)
    | some c' => linesQ (i + 1) c' l := rfl
noncomputable def parseQ (s : List UInt8) : Int × Int × Cft :=
  if 16384 < s.length then (3, 0, cft0) else match linesQ 0 cft0 (splitF 10 s) with
  | .inl i => (12, (i : Int), cft0)
  | .inr c => if (whereF c.P c.C c.T).1 = 0 then (0, 0, c) else ((whereF c.P c.C c.T).1, 0, cft0)
theorem numZ_at {m : Nat} {w t : List UInt8} (hv : (valF m w).2 = true) (ht : ∀ c, t.head? = some c → isD c = false) : numZ m (w ++ t) = some (((valF m w).1 : Int), t) := by
  obtain ⟨h1, h2⟩ := valF_inv hv
  have := numS_num h2 ht
  rw [← h1] at this
  unfold numZ
  rw [this]
  rfl
theorem numW_at {w t : List UInt8} (hv : (valF lim40 w).2 = true) (ht : ∀ c, t.head? = some c → isD c = false) : numW (w ++ t) = some (((valF lim40 w).1 : Int), t) := numZ_at hv ht
theorem ahead_all (p : UInt8 → Bool) : ∀ (s : List UInt8), ∀ c ∈ aheadT p s, p c = false
  | [], c, h => by cases h
  | x :: s, c, h => by
    unfold aheadT at h
    rw [List.takeWhile_cons] at h
    split at h
    · rename_i hx
      rcases List.mem_cons.1 h with rfl | h
      · simpa using hx
      · exact ahead_all p s c h
    · cases h
theorem look_num (look : List UInt8 → Int) (hk : ∀ w, 0 ≤ look w → (valF lim40 w).2 = true ∧ look w = ((valF lim40 w).1 : Int)) : LookS look numW := fun s r hl hr => by
  have h := takeB_some hr
  have e := ahead_behind st4 s
  obtain ⟨h1, h2⟩ := hk _ hl
  have := numW_at h1 (t := behindT st4 s) (by rw [h]; intro c hc; injection hc with hc; rw [← hc]; rfl)
  rw [e] at this
  rw [this, h2]
theorem join_cons (b : UInt8) (x : List UInt8) {l : List (List UInt8)} (h : l ≠ []) : joinB b (x :: l) = x ++ b :: joinB b l := by
  cases l with
  | nil => exact absurd rfl h
  | cons y l => rfl
theorem lineD_skip {c : Cft} {s : List UInt8} (hs : skipB s = true) : lineD c s = some c := by
  unfold skipB at hs
  unfold lineD lineS
  rw [if_pos (by simpa using hs)]
  rfl
end Txt
end Go.Proofs.YtfmndmhjjbeokaaGreatDoor
namespace Go.Proofs.YtfmndmhjjbeokaaGreatDoor
set_option maxRecDepth 100000
open Go.RowKit Tab Txt
set_option linter.unusedSimpArgs false
set_option linter.unusedVariables false
def rdc (st : Option (List UInt8)) : List Value := [.string (bsOf (st.getD [])), .bool st.isNone]
abbrev RdrS (B g : Nat) (st : Option (List UInt8)) (w : World) : Prop := OwnV 79 2 w B (some ⟨g, 0, none⟩) 1 1 (rdc st)
structure Rpo (B g : Nat) (st' : Option (List UInt8)) (w w' : World) : Prop where
  rd : RdrS B g st' w'
  gb : w.grownBy w' (some g)
theorem ogb_refl (w : World) (g : Option Nat) : w.grownBy w g := ⟨rfl, rfl, rfl, Nat.le_refl _, fun _ _ _ => rfl⟩
theorem ogb_trans {w w1 w2 : World} {g : Option Nat} (h : w.grownBy w1 g) (k : w1.grownBy w2 g) : w.grownBy w2 g :=
  ⟨k.os.trans h.os, k.tape.trans h.tape, k.output.trans h.output, Nat.le_trans h.size k.size, fun i hi hne => (k.block i (Nat.lt_of_lt_of_le hi h.size) hne).trans (h.block i hi hne)⟩
theorem ogb_bel {w w' : World} {g : Option Nat} (h : Below w.heap.size w w') : w.grownBy w' g := ⟨h.os, h.tape, h.output, h.size, fun i hi _ => h.block i hi⟩
theorem ogb_below {w w' : World} {g B : Nat} (h : w.grownBy w' (some g)) (hg : B ≤ g) (hB : B ≤ w.heap.size) : Below B w w' := ⟨h.os, h.tape, h.output, h.size, fun i hi => h.block i (by omega) (by intro e; injection e with e; omega)⟩
theorem ogb_set {w : World} {g k : Nat} (v : Value) (hg : g < w.heap.size) : w.grownBy (w.setCell ⟨g, k, none⟩ v) (some g) := by
  have h : Below g w (w.setCell ⟨g, k, none⟩ v) := (Below.refl _ _).setCell (p := ⟨g, k, none⟩) (Nat.le_refl _) v
  refine ⟨h.os, h.tape, h.output, h.size, fun i hi hne => ?_⟩
  exact Below.heap_setCell _ _ _ _ (fun e => hne (by rw [e]))
theorem OwnV.gbo {E s B n c : Nat} {A : Option Addr} {l : List Value} {w w' : World} {g : Nat} (h : OwnV E s w B A n c l) (hg : w.grownBy w' (some g)) (hA : obk A ≠ some g) : OwnV E s w' B A n c l :=
  OwnV.keep' h fun k hk => hg.block k (OwnV.older h hk) fun e => hA (by rw [hk, e])
section
variable {B g : Nat} {st st' : Option (List UInt8)} {w w' w'' : World}
theorem RdrS.cells (h : RdrS B g st w) : w.cell? ⟨g, 0, none⟩ = some (.string (bsOf (st.getD []))) ∧ w.cell? ⟨g, 1, none⟩ = some (.bool st.isNone) ∧ w.frozen? ⟨g, 0, none⟩ = false ∧ w.frozen? ⟨g, 1, none⟩ = false ∧ B ≤ g ∧ g < w.heap.size :=
  ⟨World.ownsRow.cellAt h 0 (by omega), World.ownsRow.cellAt h 1 (by omega), World.ownsRow.frozenAt h 0, World.ownsRow.frozenAt h 1, OwnV.obk_ge h (b := g) rfl⟩
theorem Rpo.trans {s1 : Option (List UInt8)} (h : Rpo B g s1 w w') (k : Rpo B g st' w' w'') : Rpo B g st' w w'' := ⟨k.rd, ogb_trans h.gb k.gb⟩
theorem Rpo.refl (h : RdrS B g st w) : Rpo B g st w w := ⟨h, ogb_refl _ _⟩
theorem Rpo.set0 (h : RdrS B g st w) (s r : List UInt8) (hs : st = some s) : Rpo B g (some r) w (w.setCell ⟨g, 0, none⟩ (.string (bsOf r))) := by
  subst hs
  exact ⟨OwnV.set h 0 _ (by show 0 < 2; omega), ogb_set _ h.cells.2.2.2.2.2⟩
theorem Rpo.fell (h : RdrS B g st w) : Rpo B g none w ((w.setCell ⟨g, 0, none⟩ (.string ⟨#[]⟩)).setCell ⟨g, 1, none⟩ (.bool true)) :=
  ⟨OwnV.set (OwnV.set h 0 _ (by show 0 < 2; omega)) 1 _ (by show 1 < 2; omega), ogb_trans (ogb_set _ h.cells.2.2.2.2.2) (ogb_set _ (by simpa using h.cells.2.2.2.2.2))⟩
end
theorem bs_emp (a : ByteArray) : a.toList.isEmpty = decide (a = ⟨#[]⟩) := by
  have h := bs_eq_of (a := a) (b := ⟨#[]⟩) rfl
  have e : (⟨#[]⟩ : ByteArray).toList = [] := by kernel_rfl
  rw [e] at h
  rw [← h]
  cases a.toList <;> rfl
theorem tend_nil {B g : Nat} {st : Option (List UInt8)} {w : World} (h : RdrS B g st w) (hs : st.getD [] = []) : Calls Tryz.prog 40 #[.pointer (some ⟨g, 0, none⟩)] w (fun e w' => e = .returned (.bool true) ∧ w = w') := by
  obtain ⟨m0, m1, f0, f1, hB, hg⟩ := h.cells
  have i1 : (bsOf []).toList.isEmpty = true := by rw [bs_emp]; exact decide_eq_true rfl
  rw [hs] at m0
  generalize bsOf [] = sv at m0 i1
  clear h hs m1
  go_enter Tryz.func40, Tryz.ntmps40
  go_wp2_with fail
  go_ret
  exact ⟨rfl, rfl⟩
theorem tend_cons {B g : Nat} {c : UInt8} {r : List UInt8} {w : World} (h : RdrS B g (some (c :: r)) w) : Calls Tryz.prog 40 #[.pointer (some ⟨g, 0, none⟩)] w (fun e w' => e = .returned (.bool false) ∧ w = w') := by
  obtain ⟨m0, m1, f0, f1, hB, hg⟩ := h.cells
  have i1 : (bsOf (c :: r)).toList.isEmpty = false := by rw [bs_emp]; exact decide_eq_false fun e => by have := congrArg ByteArray.size e; cases this
  rw [Option.getD_some] at m0
  generalize bsOf (c :: r) = sv at m0 i1
  clear h m1
  go_enter Tryz.func40, Tryz.ntmps40
  go_wp2_with fail
  go_ret
  exact ⟨rfl, rfl⟩
theorem tfail_any {B g : Nat} {st : Option (List UInt8)} {w : World} (h : RdrS B g st w) : Calls Tryz.prog 78 #[.pointer (some ⟨g, 0, none⟩)] w (fun e w' => e = .returned (.tuple #[]) ∧ Rpo B g none w w') := by
  obtain ⟨m0, m1, f0, f1, hB, hg⟩ := h.cells
  have H := Lib.hid h
  clear h
  go_enter Tryz.func78, Tryz.ntmps78
  go_wp2_with fail
  go_end0
  exact ⟨rfl, Rpo.fell H.out⟩
theorem tdone_any {B g : Nat} {st : Option (List UInt8)} {w : World} (h : RdrS B g st w) : Calls Tryz.prog 44 #[.pointer (some ⟨g, 0, none⟩)] w (fun e w' => e = .returned (.bool (decide (st = some []))) ∧ w = w') := by
  obtain ⟨m0, m1, f0, f1, hB, hg⟩ := h.cells
  cases st with
  | none =>
    have HE := Lib.hid (tend_nil h rfl)
    rw [decide_eq_false (by intro e; cases e)]
    clear h m0
    go_enter Tryz.func44, Tryz.ntmps44
    go_wp2_with (go_at_call 40; refine HE.out.mono ?_; rintro e w1 ⟨rfl, rfl⟩)
    go_ret
    exact ⟨rfl, rfl⟩
  | some s =>
    cases s with
    | nil =>
      have HE := Lib.hid (tend_nil h rfl)
      rw [decide_eq_true rfl]
      clear h m0
      go_enter Tryz.func44, Tryz.ntmps44
      go_wp2_with (go_at_call 40; refine HE.out.mono ?_; rintro e w1 ⟨rfl, rfl⟩)
      go_ret
      exact ⟨rfl, rfl⟩
    | cons c r =>
      have HE := Lib.hid (tend_cons h)
      rw [decide_eq_false (by intro e; injection e with e; cases e)]
      clear h m0
      go_enter Tryz.func44, Tryz.ntmps44
      go_wp2_with (go_at_call 40; refine HE.out.mono ?_; rintro e w1 ⟨rfl, rfl⟩)
      go_ret
      exact ⟨rfl, rfl⟩
def tkS (b : UInt8) (st : Option (List UInt8)) : Option (List UInt8) := match st.bind (takeB b) with
  | some r => some r
  | none => st
set_option maxHeartbeats 400000 in
theorem ttake_any {B g : Nat} {st : Option (List UInt8)} {w : World} (h : RdrS B g st w) (b : UInt8) (z : Int) (hz : z = (b.toNat : Int)) : Calls Tryz.prog 42 #[.pointer (some ⟨g, 0, none⟩), .int .u8 z] w (fun e w' => e = .returned (.bool (st.bind (takeB b)).isSome) ∧ Rpo B g (tkS b st) w w') := by
  subst hz
  obtain ⟨m0, m1, f0, f1, hB, hg⟩ := h.cells
  have H := Lib.hid h
  by_cases hs : st.getD [] = []
  · have HE := Lib.hid (tend_nil h hs)
    have e1 : st.bind (takeB b) = none := by
      cases st with
      | none => rfl
      | some s => rw [show s = [] from hs]; rfl
    have e2 : tkS b st = st := by unfold tkS; rw [e1]
    rw [e1, e2]
    clear h m0 e1 e2 hs
    go_enter Tryz.func42, Tryz.ntmps42
    go_wp2_with (go_at_call 40; refine HE.out.mono ?_; rintro e w1 ⟨rfl, rfl⟩)
    go_ret
    exact ⟨rfl, Rpo.refl H.out⟩
  · obtain ⟨c, r, rfl⟩ : ∃ c r, st = some (c :: r) := by
      cases st with
      | none => exact absurd rfl hs
      | some s =>
        cases s with
        | nil => exact absurd rfl hs
        | cons c r => exact ⟨c, r, rfl⟩
    have HE := Lib.hid (tend_cons h)
    have hsz : (bsOf (c :: r)).size = r.length + 1 := rfl
    have hix : ∀ W, (Instr.index 9 (.string (bsOf (c :: r))) (.int .i64 0)).run Tryz.prog W = .ok (.int .u8 (c.toNat : Int)) W := sidx (l := c :: r) (i := 0) rfl
    have hbd : (some (c :: r)).bind (takeB b) = if c = b then some r else none := takeB_cons b c r
    unfold tkS
    rw [hbd]
    rw [Option.getD_some] at m0
    clear h hs hbd
    by_cases hc : c = b
    · have i1 : ((c.toNat : Int) != (b.toNat : Int)) = false := by rw [hc]; simp
      have hex : (bsOf (c :: r)).extract 1 (r.length + 1) = bsOf r := bs_from (c :: r) 1 _ rfl
      rw [if_pos hc]
      generalize bsOf (c :: r) = sv at m0 hsz hix hex
      go_enter Tryz.func42, Tryz.ntmps42
      go_wp2_with (go_at_call 40; refine HE.out.mono ?_; rintro e w1 ⟨rfl, rfl⟩)
      go_ret
      exact ⟨rfl, Rpo.set0 H.out _ r rfl⟩
    · have i1 : ((c.toNat : Int) != (b.toNat : Int)) = true := bne_iff_ne.2 fun e => hc (UInt8.toNat_inj.1 (Int.ofNat.inj e))
      rw [if_neg hc]
      generalize bsOf (c :: r) = sv at m0 hsz hix
      go_enter Tryz.func42, Tryz.ntmps42
      go_wp2_with (go_at_call 40; refine HE.out.mono ?_; rintro e w1 ⟨rfl, rfl⟩)
      go_ret
      exact ⟨rfl, Rpo.refl H.out⟩
def nxV (st : Option (List UInt8)) : Int := match st with
  | some (c :: _) => (c.toNat : Int)
  | _ => 0
def nxS (st : Option (List UInt8)) : Option (List UInt8) := st.map List.tail
set_option maxHeartbeats 400000 in
theorem tnext_any {B g : Nat} {st : Option (List UInt8)} {w : World} (h : RdrS B g st w) : Calls Tryz.prog 83 #[.pointer (some ⟨g, 0, none⟩)] w (fun e w' => e = .returned (.int .u8 (nxV st)) ∧ Rpo B g (nxS st) w w') := by
  obtain ⟨m0, m1, f0, f1, hB, hg⟩ := h.cells
  have H := Lib.hid h
  by_cases hs : st.getD [] = []
  · have HE := Lib.hid (tend_nil h hs)
    have e1 : nxV st = 0 ∧ nxS st = st := by
      cases st with
      | none => exact ⟨rfl, rfl⟩
      | some s => rw [show s = [] from hs]; exact ⟨rfl, rfl⟩
    rw [e1.1, e1.2]
    clear h m0 e1 hs
    go_enter Tryz.func83, Tryz.ntmps83
    go_wp2_with (go_at_call 40; refine HE.out.mono ?_; rintro e w1 ⟨rfl, rfl⟩)
    go_ret
    exact ⟨rfl, Rpo.refl H.out⟩
  · obtain ⟨c, r, rfl⟩ : ∃ c r, st = some (c :: r) := by
      cases st with
      | none => exact absurd rfl hs
      | some s =>
        cases s with
        | nil => exact absurd rfl hs
        | cons c r => exact ⟨c, r, rfl⟩
    have HE := Lib.hid (tend_cons h)
    have hsz : (bsOf (c :: r)).size = r.length + 1 := rfl
    have hix : ∀ W, (Instr.index 9 (.string (bsOf (c :: r))) (.int .i64 0)).run Tryz.prog W = .ok (.int .u8 (c.toNat : Int)) W := sidx (l := c :: r) (i := 0) rfl
    have hex : (bsOf (c :: r)).extract 1 (r.length + 1) = bsOf r := bs_from (c :: r) 1 _ rfl
    rw [Option.getD_some] at m0
    show Calls _ _ _ _ (fun e w' => e = .returned (.int .u8 (c.toNat : Int)) ∧ Rpo B g (some r) w w')
    clear h hs
    generalize bsOf (c :: r) = sv at m0 hsz hix hex
    go_enter Tryz.func83, Tryz.ntmps83
    go_wp2_with (go_at_call 40; refine HE.out.mono ?_; rintro e w1 ⟨rfl, rfl⟩)
    go_ret
    exact ⟨rfl, Rpo.set0 H.out _ r rfl⟩
theorem ttake_yes {B g : Nat} {st : Option (List UInt8)} {w : World} (h : RdrS B g st w) (b : UInt8) (z : Int) (hz : z = (b.toNat : Int)) {r : List UInt8} (hr : st.bind (takeB b) = some r) : Calls Tryz.prog 42 #[.pointer (some ⟨g, 0, none⟩), .int .u8 z] w (fun e w' => e = .returned (.bool true) ∧ Rpo B g (some r) w w') := by
  have := ttake_any h b z hz
  have e2 : tkS b st = some r := by unfold tkS; rw [hr]
  rw [hr, e2] at this
  exact this
theorem ttake_no {B g : Nat} {st : Option (List UInt8)} {w : World} (h : RdrS B g st w) (b : UInt8) (z : Int) (hz : z = (b.toNat : Int)) (hr : st.bind (takeB b) = none) : Calls Tryz.prog 42 #[.pointer (some ⟨g, 0, none⟩), .int .u8 z] w (fun e w' => e = .returned (.bool false) ∧ Rpo B g st w w') := by
  have := ttake_any h b z hz
  have e2 : tkS b st = st := by unfold tkS; rw [hr]
  rw [hr, e2] at this
  exact this
theorem tmust_any {B g : Nat} {st : Option (List UInt8)} {w : World} (h : RdrS B g st w) (b : UInt8) (z : Int) (hz : z = (b.toNat : Int)) : Calls Tryz.prog 75 #[.pointer (some ⟨g, 0, none⟩), .int .u8 z] w (fun e w' => e = .returned (.tuple #[]) ∧ Rpo B g (st.bind (takeB b)) w w') := by
  cases hq : st.bind (takeB b) with
  | some r =>
    have HT := Lib.hid (ttake_yes h b z hz hq)
    clear h hq hz
    go_enter Tryz.func75, Tryz.ntmps75
    go_wp2_with fail
    refine HT.out.mono ?_
    rintro e w1 ⟨rfl, h1⟩
    have H1 := Lib.hid h1
    clear h1
    go_wp2_with fail
    go_end0
    exact ⟨rfl, H1.out⟩
  | none =>
    have HT := Lib.hid (ttake_no h b z hz hq)
    clear h hq hz
    go_enter Tryz.func75, Tryz.ntmps75
    go_wp2_with fail
    refine HT.out.mono ?_
    rintro e w1 ⟨rfl, h1⟩
    have HF := Lib.hid (tfail_any h1.rd)
    have H1 := Lib.hid h1
    clear h1
    go_wp2_with fail
    refine HF.out.mono ?_
    rintro e w2 ⟨rfl, h2⟩
    have H2 := Lib.hid (H1.out.trans h2)
    clear h2
    go_wp2_with fail
    go_end0
    exact ⟨rfl, H2.out⟩
end Go.Proofs.YtfmndmhjjbeokaaGreatDoor
