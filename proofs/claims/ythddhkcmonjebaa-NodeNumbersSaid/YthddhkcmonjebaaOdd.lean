/- A table with one node turned, put in, or taken out. -/
import Derived.Test.YthddhkcmonjebaaTable
import Derived.StillTailTactics
import Derived.Test.YthddhkcmonjebaaTimes
namespace Go.Proofs.Ythddhkcmonjebaa
open Go.RowKit Tab
set_option linter.unusedSimpArgs false
set_option linter.unusedVariables false

/-- A row of nodes, new, of no more than N. -/
def MadeN (N : Nat) (w : World) (e : Ending) (w' : World) : Prop := ∃ (A : Option Addr) (n c : Nat) (l : List Nd), e = .returned (.slice A n c) ∧ RdN w' w'.heap.size A n l ∧ n ≤ c ∧ n ≤ N ∧ Below w.heap.size w w'
theorem MadeN.mk {N : Nat} {w w' : World} {A : Option Addr} {n c B : Nat} {l : List Nd} (h : OwnN w' B A n c l) (hn : n ≤ N) (hb : Below w.heap.size w w') : MadeN N w (.returned (.slice A n c)) w' :=
  ⟨A, n, c, l, rfl, h.rdn, h.cap, hn, hb⟩
theorem ns_setK (l : List Nd) (i : Nat) (z : Int) (x : Nd) (h : l[i]? = some x) : (ns l).set (i * 3) (.int .i64 z) = ns (l.set i ⟨z, x.p, x.n⟩) := by
  induction l generalizing i with
  | nil => simp at h
  | cons y l ih =>
    cases i with
    | zero => simp at h; subst h; simp [ns]
    | succ i => rw [show (i + 1) * 3 = i * 3 + 1 + 1 + 1 by omega]; simp only [ns, List.set_cons_succ]; rw [ih i (by simpa using h)]
theorem ns_setP (l : List Nd) (i : Nat) (z : Int) (x : Nd) (h : l[i]? = some x) : (ns l).set (i * 3 + 1) (.int .i64 z) = ns (l.set i ⟨x.k, z, x.n⟩) := by
  induction l generalizing i with
  | nil => simp at h
  | cons y l ih =>
    cases i with
    | zero => simp at h; subst h; simp [ns]
    | succ i => rw [show (i + 1) * 3 + 1 = i * 3 + 1 + 1 + 1 + 1 by omega]; simp only [ns, List.set_cons_succ]; rw [ih i (by simpa using h)]
theorem ns_setN (l : List Nd) (i : Nat) (z : Int) (x : Nd) (h : l[i]? = some x) : (ns l).set (i * 3 + 2) (.int .i64 z) = ns (l.set i ⟨x.k, x.p, z⟩) := by
  induction l generalizing i with
  | nil => simp at h
  | cons y l ih =>
    cases i with
    | zero => simp at h; subst h; simp [ns]
    | succ i => rw [show (i + 1) * 3 + 2 = i * 3 + 2 + 1 + 1 + 1 by omega]; simp only [ns, List.set_cons_succ]; rw [ih i (by simpa using h)]
/-- A field of a node of an own row is stored. -/
theorem OwnN.store {w : World} {B g n c : Nat} {l : List Nd} (h : OwnN w B (some ⟨g, 0, none⟩) n c l) (o : Nat) (z : Int) (l' : List Nd) (hl : l'.length = l.length) (hs : (ns l).set o (.int .i64 z) = ns l') (hb : ∀ x ∈ l', NdIn x) : OwnN (w.setCell ⟨g, o, none⟩ (.int .i64 z)) B (some ⟨g, 0, none⟩) n c l' := by
  refine ⟨hl.trans h.len, ?_, hb⟩
  have := (World.ownsRow.stored h.own o (.int .i64 z)).1
  rw [hs] at this
  exact this
theorem mem_set {l : List Nd} {i : Nat} {y : Nd} (hl : ∀ x ∈ l, NdIn x) (hy : NdIn y) : ∀ x ∈ l.set i y, NdIn x := fun x hx => by
  rcases List.mem_or_eq_of_mem_set hx with h | rfl
  · exact hl x h
  · exact hy
theorem in64_wrap (z : Int) : In64 (IntKind.i64.wrap z) := by
  rw [IntKind.wrap_i64]
  unfold In64
  omega
theorem in64_wrap64 (z : Int) : In64 (wrap64 z) := by
  unfold In64 wrap64
  omega
theorem within_n (n : Int) (m : Nat) (M : Int) (w : World) (hM : M = (m : Int)) (hm : m < 4611686018427387904) :
    Calls Try.prog 12 #[.int .i64 n, .int .i64 0, .int .i64 M] w (Between m w) := by
  subst hM
  exact within_any n m w hm
set_option maxRecDepth 100000 in
set_option maxHeartbeats 4000000 in
theorem odd_any (A : Option Addr) (n cap : Nat) (l : List Nd) (a q z : Int) (w : World) (h : RdN w w.heap.size A n l) (hc : n ≤ cap) (hn : n ≤ 200000) (hz : In64 z) :
    Calls Try.prog 10 #[.slice A n cap, .int .i64 a, .int .i64 q, .int .i64 z] w (MadeN (n + 1) w) := by
  have hz1 := hz.1
  have hz2 := hz.2
  have hbl := bl1 w (.cells #[] 33)
  have ql := OwnN.lit w w.heap.size #[] [] 0 rfl rfl (Nat.le_refl _) (by omega) (by simp)
  have hrd := h.on hbl
  obtain ⟨M, hM, hM2⟩ := and_mask z 7 (by omega)
  have hM : bits .and .i64 z 7 = (M : Int) := hM
  have HMASK := Lib.hid hM
  clear hM
  by_cases h0 : n = 0
  · subst h0
    go_enter Try.func10, Try.ntmps10
    go_wp2_with (at_builtin; go_loud (refine wpList_appV elN rfl (.tmp 11) (.tmp 12) rfl rfl w.heap.size _ 0 0 _ rfl ql.own A 0 cap _ _ rfl hrd.rd (by rw [ns_length, hrd.len]) (ns_one _) (by omega) (by unfold maxLen; omega) hbl.size 0 rfl _ rfl ?_; intro A2 c2 w2 hw2 hb2 _))
    go_ret
    exact MadeN.mk (l := l) (B := w.heap.size) ⟨h.len, hw2, h.bd⟩ (by omega) (hbl.trans hb2)
  · have hn0 : ((n : Int) == 0) = false := beq_eq_false_iff_ne.2 (by omega)
    have hn1 : (n : Int) - 1 = ((n - 1 : Nat) : Int) := by omega
    have HN1 := Lib.hid hn1
    clear hn1
    go_enter Try.func10, Try.ntmps10
    go_wp2_with (at_builtin; go_loud (refine wpList_appV elN rfl (.tmp 11) (.tmp 12) rfl rfl w.heap.size _ 0 0 _ rfl ql.own A n cap _ _ rfl hrd.rd (by rw [ns_length, hrd.len]) (ns_one _) (by omega) (by unfold maxLen; omega) hbl.size n (Nat.zero_add n) _ rfl ?_; intro A2 c2 w2 hw2 hb2 _))
    have ho : OwnN w2 w.heap.size A2 n c2 l := ⟨h.len, hw2, h.bd⟩
    have k2 := hbl.trans hb2
    obtain ⟨g, rfl, hg, hglt⟩ := ho.own.block (by omega)
    have hc2 := ho.cap
    clear hw2 hb2 ql hrd hbl h hc
    refine (within_n a (n - 1) _ w2 HN1.out (by omega)).mono ?_
    rintro e wx ⟨k, hk, rfl, rfl⟩
    go_wp2_with fail
    refine (within_n q 6 _ w2 rfl (by omega)).mono ?_
    rintro e wx ⟨r, hr, rfl, rfl⟩
    have hkn : k < n := by omega
    have hkl : k < l.length := by rw [ho.len]; exact hkn
    obtain ⟨x, hx⟩ : ∃ x, l[k]? = some x := ⟨_, List.getElem?_eq_getElem hkl⟩
    have hxin : NdIn x := ho.bd x (List.mem_of_getElem? hx)
    obtain ⟨n1, n2, n3⟩ := ns_get l k hkl
    have hxe : l[k] = x := by have := List.getElem?_eq_getElem hkl; rw [hx] at this; exact (Option.some.inj this).symm
    rw [hxe] at n1 n2 n3
    have c0 := World.ownsRow.cellAt ho.own (k * 3) (by omega)
    have c1 := World.ownsRow.cellAt ho.own (k * 3 + 1) (by omega)
    have c2' := World.ownsRow.cellAt ho.own (k * 3 + 2) (by omega)
    rw [n1] at c0
    rw [n2] at c1
    rw [n3] at c2'
    have f0 := World.ownsRow.frozenAt ho.own (k * 3)
    have f1 := World.ownsRow.frozenAt ho.own (k * 3 + 1)
    have f2 := World.ownsRow.frozenAt ho.own (k * 3 + 2)
    have HX := Lib.hid hx
    have HO := Lib.hid ho
    obtain ⟨xk, xp, xn⟩ := x
    dsimp only at c0 c1 c2'
    clear hx hxe n1 n2 n3 ho
    have hr7 : r = 0 ∨ r = 1 ∨ r = 2 ∨ r = 3 ∨ r = 4 ∨ r = 5 ∨ r = 6 := by omega
    clear hr
    rcases hr7 with rfl | rfl | rfl | rfl | rfl | rfl | rfl
    · go_wp2_with fail
      go_ret
      exact MadeN.mk (HO.out.store (k * 3) z _ (by simp) (ns_setK l k z _ HX.out) (mem_set HO.out.bd ⟨hz, hxin.2.1, hxin.2.2⟩)) (by omega) (k2.setCell (p := ⟨g, k * 3, none⟩) hg _)
    · go_wp2_with fail
      go_ret
      exact MadeN.mk (HO.out.store (k * 3 + 1) z _ (by simp) (ns_setP l k z _ HX.out) (mem_set HO.out.bd ⟨hxin.1, hz, hxin.2.2⟩)) (by omega) (k2.setCell (p := ⟨g, k * 3 + 1, none⟩) hg _)
    · go_wp2_with fail
      go_ret
      exact MadeN.mk (HO.out.store (k * 3 + 2) z _ (by simp) (ns_setN l k z _ HX.out) (mem_set HO.out.bd ⟨hxin.1, hxin.2.1, hz⟩)) (by omega) (k2.setCell (p := ⟨g, k * 3 + 2, none⟩) hg _)
    · go_wp2_with fail
      go_ret
      exact MadeN.mk (HO.out.store (k * 3 + 2) z _ (by simp) (ns_setN l k z _ HX.out) (mem_set HO.out.bd ⟨hxin.1, hxin.2.1, hz⟩)) (by omega) (k2.setCell (p := ⟨g, k * 3 + 2, none⟩) hg _)
    · have hkc : k ≤ c2 := by omega
      have hkn1 : k + 1 ≤ n := by omega
      have hwr : IntKind.i64.wrap ((k : Int) + 1) = (k : Int) + 1 := IntWalk.i64_in _ (by omega)
      have hk1 : ((k : Int) + 1).toNat = k + 1 := by omega
      have hk0 : 0 ≤ (k : Int) + 1 := by omega
      have hkni : (k : Int) + 1 ≤ (n : Int) := by omega
      go_wp2_with fail
      go_still_tail 7, (by kernel_rfl)
      change wpList _ _ _ _ _ w2.drew
      have ho := HO.out
      have hd : OwnN w2.drew w.heap.size (some ⟨g, 0, none⟩) n c2 l := ⟨ho.len, ho.own, ho.bd⟩
      have hfr := OwnV.front hd.own k (by omega)
      have hbk := (hd.rdn).back (k + 1)
      have kd : Below w.heap.size w w2.drew := k2.drew
      have e1 : (⟨g, 0, none⟩ : Addr).add ((k + 1) * 3) = ⟨g, (k + 1) * 3, none⟩ := by unfold Addr.add; rw [if_neg (by omega), Nat.zero_add]
      rw [e1] at hbk
      rw [← ns_take] at hfr
      have hle := hd.len
      have hsrc : RdV w2.drew w2.drew.heap.size (if c2 = k + 1 then some ⟨g, 0, none⟩ else some ⟨g, (k + 1) * 3, none⟩) (ns (l.drop (k + 1))) := by
        split
        · rw [List.drop_eq_nil_of_le (by omega)]
          exact RdV.nil
        · exact hbk.rd
      refine wpList_appV elN rfl (.tmp 63) (.tmp 67) rfl rfl w.heap.size (some ⟨g, 0, none⟩) k c2 _ rfl hfr (if c2 = k + 1 then some ⟨g, 0, none⟩ else some ⟨g, (k + 1) * 3, none⟩) (n - (k + 1)) (c2 - (k + 1)) _ w2.drew.heap.size ?_ hsrc (by rw [ns_length, List.length_drop]; omega) (ns_one _) (by omega) (by unfold maxLen; omega) kd.size (n - 1) (by omega) _ rfl ?_
      · rfl
      · intro A5 c5 w5 hw5 hb5 _
        go_wp2_with fail
        all_goals
          go_ret
          refine MadeN.mk (B := w.heap.size) (l := l.take k ++ l.drop (k + 1)) ⟨by rw [List.length_append, List.length_take, List.length_drop]; omega, ?_, fun y hy => ?_⟩ (by omega) (kd.trans hb5)
          · rw [ns_append]; exact hw5
          · rcases List.mem_append.1 hy with hy | hy
            · exact HO.out.bd y (List.mem_of_mem_take hy)
            · exact HO.out.bd y (List.mem_of_mem_drop hy)
    · have ho := HO.out
      have hcap := ho.cap
      have k3 := k2.alloc k2.size (.cells #[.int .i64 xk, .int .i64 xp, .int .i64 xn] 33)
      have ho3 := OwnN.keep ho (w' := w2.alloc (.cells #[.int .i64 xk, .int .i64 xp, .int .i64 xn] 33)) fun b _ hb => Below.heap_alloc w2 _ b hb
      have hr3 := rdV_new w2 #[.int .i64 xk, .int .i64 xp, .int .i64 xn] 33 (ns [⟨xk, xp, xn⟩]) rfl
      have HO3 := Lib.hid ho3
      clear ho ho3
      go_wp2_with (at_builtin; go_loud (refine wpList_appV elN rfl (.tmp 71) (.tmp 76) rfl rfl w.heap.size _ n c2 _ rfl HO3.out.own _ 1 1 _ _ rfl hr3 (by simp [ns_length]) (ns_one _) (by omega) (by unfold maxLen; omega) k3.size (n + 1) rfl _ rfl ?_; intro A5 c5 w5 hw5 hb5 _))
      go_ret
      refine MadeN.mk (B := w.heap.size) (l := l ++ [⟨xk, xp, xn⟩]) ⟨by rw [List.length_append, HO3.out.len]; rfl, ?_, fun y hy => ?_⟩ (by omega) (k3.trans hb5)
      · rw [ns_append]; exact hw5
      · rcases List.mem_append.1 hy with hy | hy
        · exact HO3.out.bd y hy
        · simp at hy; subst hy; exact hxin
    · have hM : bits .and .i64 z 7 = (M : Int) := HMASK.out
      go_wp2_with fail
      go_ret
      exact MadeN.mk (HO.out.store (k * 3 + 2) (wrap64 (xn + (M : Int))) _ (by simp) (ns_setN l k _ _ HX.out) (mem_set HO.out.bd ⟨hxin.1, hxin.2.1, in64_wrap64 _⟩)) (by omega) (k2.setCell (p := ⟨g, k * 3 + 2, none⟩) hg _)
end Go.Proofs.Ythddhkcmonjebaa
