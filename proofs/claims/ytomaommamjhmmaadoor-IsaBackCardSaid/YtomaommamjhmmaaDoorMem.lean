/- Rows of bytes in memory: what a slice holds, what append and a conversion to a text make of it. -/
import Derived.Test.YtomaommamjhmmaaDoorBase
import Derived.Maps.AppendAt
import Derived.Laws.IdiomStrings
import Derived.Deep.AppendLies
import Derived.Laws.CopyOwn
import Derived.OwnWalk
namespace Go.Proofs.YtomaommamjhmmaaDoor
set_option maxRecDepth 100000
open Go.RowKit

theorem u8_info : (Tryd.prog.info? 5).map (fun i => (i.zero, i.size, i.bytes)) = some (some (.int .u8 0), 1, 1) := by kernel_rfl
def bs (l : List UInt8) : List Value := l.map fun b => .int .u8 (b.toNat : Int)
theorem bs_one (l : List UInt8) : ∀ u ∈ bs l, u.oneCell' = true := by
  intro u hu
  obtain ⟨b, _, rfl⟩ := List.mem_map.1 hu
  rfl
theorem bs_length (l : List UInt8) : (bs l).length = l.length := by simp [bs]
theorem bs_append (l m : List UInt8) : bs (l ++ m) = bs l ++ bs m := by simp [bs]
theorem bs_get (l : List UInt8) (j : Nat) (u : Value) (h : (bs l)[j]? = some u) : ∃ hj : j < l.length, u = .int .u8 (l[j].toNat : Int) := by
  unfold bs at h
  rw [List.getElem?_map] at h
  obtain ⟨b, hb, rfl⟩ := Option.map_eq_some_iff.1 h
  obtain ⟨hj, rfl⟩ := List.getElem?_eq_some_iff.1 hb
  exact ⟨hj, rfl⟩

/-- The slice v is a row of the call's own, block B or behind it; it holds l. -/
def Own (w : World) (B : Nat) (A : Option Addr) (n c : Nat) (l : List UInt8) : Prop :=
  w.ownsRow B 5 1 (.slice A n c) n (bs l)

section
variable {w w' : World} {B B' n c : Nat} {A : Option Addr} {l : List UInt8}
theorem Own.len (h : Own w B A n c l) : l.length = n := by
  have := h.1
  rw [bs_length] at this; omega
theorem Own.rd (h : Own w B A n c l) : Rd w w.heap.size A n l := by
  refine ⟨h.len, fun hn => ?_⟩
  obtain ⟨g, cap, hv, _, hlt⟩ := h.form hn
  obtain rfl : A = some ⟨g, 0, none⟩ := by injection hv
  refine ⟨_, rfl, hlt, fun j hj => ?_⟩
  exact h.cells (g := g) rfl j _ (by simp [bs, hj])
theorem Own.cap (h : Own w B A n c l) : n ≤ c := by
  rcases h.2 with ⟨hv, h0⟩ | ⟨g, cap, cur, hv, _, _, hnc, _⟩
  · omega
  · injection hv; omega
theorem Own.below (h : Own w B A n c l) (hs : B' = w.heap.size) (hb : Below B' w w') : Own w' B A n c l := by
  subst hs
  refine ⟨h.1, ?_⟩
  rcases h.2 with hv | ⟨g, cap, cur, hv, hbg, hg, r⟩
  · exact .inl hv
  · refine .inr ⟨g, cap, cur, hv, hbg, ?_, r⟩
    have hlt : g < w.heap.size := by
      rcases Nat.lt_or_ge g w.heap.size with h | h
      · exact h
      · rw [Array.getElem?_eq_none h] at hg; cases hg
    rw [hb.block g hlt, hg]
theorem own_lit (w : World) (B : Nat) (l : List UInt8) (C : Array Value) (hC : C.toList = bs l) (hB : B ≤ w.heap.size) (hl : l.length ≤ 4096) :
    Own (w.alloc (.cells C 5)) B (some ⟨w.heap.size, 0, none⟩) l.length l.length l := by
  have hs : C.size = l.length := by rw [← Array.length_toList, hC, bs_length]
  unfold Own
  rw [← hC]
  exact World.ownsRow_lit w C l.length hB (by unfold maxLen; omega) (by omega)
theorem rd_nil (w : World) (B : Nat) : Rd w B none 0 [] := ⟨rfl, fun h => absurd h (by omega)⟩
end

theorem append_nil_src (w : World) (B : Nat) (A : Option Addr) (n c c' : Nat) (l : List UInt8) (h : Own w B A n c l) :
    (Builtin.append_ #[22, 22] 22 #[.slice A n c, .slice none 0 c']).run Tryd.prog w = .ok (.slice A n c) w := by
  obtain ⟨i, hi, _⟩ := info_parts u8_info
  rcases h.2 with ⟨hv, _⟩ | ⟨g, cap, cur, hv, _, _, hnc, _⟩
  · simp only [Value.slice.injEq] at hv
    obtain ⟨rfl, rfl, rfl⟩ := hv
    simp [Builtin.append_, run_underlying Tryd.underlying22, sizeOf, typeInfo, hi, Builtin.lenOf, Builtin.firstCells]
  · simp only [Value.slice.injEq] at hv
    obtain ⟨rfl, _, rfl⟩ := hv
    simp [Builtin.append_, run_underlying Tryd.underlying22, sizeOf, typeInfo, hi, Builtin.lenOf, Builtin.firstCells, hnc, storeCells]

/-- append onto a row of the call's own, from whatever slice holds l: a row of the call's own, in the old one's block or in the next new one. -/
theorem run_app (w : World) (B : Nat) (A : Option Addr) (n c : Nat) (l0 : List UInt8) (h : Own w B A n c l0) (S : Option Addr) (m d : Nat) (l : List UInt8) (Bs : Nat) (hr : Rd w Bs S m l)
    (hb : n + m ≤ 140737488355328) (hB : B ≤ w.heap.size) :
    ∃ A' c' w', (Builtin.append_ #[22, 22] 22 #[.slice A n c, .slice S m d]).run Tryd.prog w = .ok (.slice A' (n + m) c') w' ∧ Own w' B A' (n + m) c' (l0 ++ l) ∧ Below B w w' := by
  obtain ⟨i, hi, hz, hs, hby⟩ := info_parts u8_info
  rcases S with _ | ad
  · have hm : m = 0 := by
      rcases Nat.eq_zero_or_pos m with h0 | h0
      · exact h0
      · obtain ⟨_, h1, _⟩ := hr.2 h0
        cases h1
    subst hm
    obtain rfl : l = [] := List.eq_nil_of_length_eq_zero hr.1
    exact ⟨A, c, w, append_nil_src w B A n c d l0 h, by simpa using h, Below.refl _ _⟩
  · have hl : (bs l).length = m * 1 := by rw [bs_length, hr.1]; omega
    have hnews : ∀ j u, (bs l)[j]? = some u → w.cell? (ad.add j) = some u := fun j u hu => by
      obtain ⟨hj, rfl⟩ := bs_get l j u hu
      obtain ⟨ad', h1, _, hc⟩ := hr.2 (by have := hr.1; omega)
      injection h1 with h1
      subst h1
      exact hc j hj
    obtain ⟨v', w', hrun, hown, hgr, hnil, hat⟩ := run_append_own_at (P := Tryd.prog) w B 22 22 5 i _ 1 1 Tryd.underlying22 hi hz hs hby rfl (by omega) (.slice A n c) n (bs l0) h ad m d (bs l) hl hnews (bs_one l)
      (by unfold maxLen; omega) (by omega) hB
    have hbel : Below B w w' := (Below.refl _ _).grown hgr hB (fun k hk => by
      rcases h.2 with ⟨hv, _⟩ | ⟨g, cap, cur, hv, hbg, _⟩
      · rw [hv] at hk; simp [Value.ownBlock] at hk
      · rw [hv] at hk; simp [Value.ownBlock] at hk; omega)
    rw [← bs_append] at hown
    rcases hown.2 with ⟨hv, h0⟩ | ⟨g, cap, cur, hv, _⟩
    · subst hv
      have e : n + m = 0 := h0
      refine ⟨none, 0, w', by rw [hrun, e], ?_, hbel⟩
      unfold Own; rw [e] at hown ⊢; exact hown
    · subst hv
      exact ⟨_, _, w', hrun, hown, hbel⟩

theorem wpList_app {ops : Array Oper} {rest : List Oper} {o : Oper} {a : Act} {Q : Exit → Act → World → Prop} {w : World} (hgd : o.guard = none) (s x : Operand)
    (ho : o.op = .call { callee := .builtin .append, args := #[s, x], argTypes := #[22, 22] }) (hty : o.type = 22)
    (B : Nat) (A : Option Addr) (n c : Nat) (l0 : List UInt8) (hs : a.eval s = .slice A n c) (h : Own w B A n c l0) (S : Option Addr) (m d : Nat) (l : List UInt8) (Bs : Nat) (hx : a.eval x = .slice S m d) (hr : Rd w Bs S m l)
    (N : Nat) (hN : n + m = N) (L : List UInt8) (hL : l0 ++ l = L) (hb : N ≤ 140737488355328) (hB : B ≤ w.heap.size)
    (hK : ∀ A' c' w', Own w' B A' N c' L → Below B w w' → wpList Tryd.prog ops Q rest (a.put o.dst (.slice A' N c')) w') : wpList Tryd.prog ops Q (o :: rest) a w := by
  subst hN; subst hL
  refine wpList_plain hgd fun K hk => ?_
  obtain ⟨A', c', w', hrun, h1, h2⟩ := run_app w B A n c l0 h S m d l Bs hr hb hB
  unfold Oper.wp execOp
  simp only [ho, hty, resolve, invoke, builtin, Sem.run_bind, Sem.run_pure, Result.andThen_ok, List.map_toArray, List.map_cons, List.map_nil, hs, hx, hrun]
  exact hk _ _ (hK A' c' w' h1 h2)

theorem wpList_wantedB {P : Program} {ops : Array Oper} {Q : Exit → Act → World → Prop} {a : Act} {w : World} {rest : List Oper} {o : Oper} (hw : Region.wanted o (yielded ops a.tmps) = true)
    (h : ∀ K : Act → World → Prop, (∀ a w, wpList P ops Q rest a w → K a w) → o.wp P a w K Q) : wpList P ops Q (o :: rest) a w :=
  wpList_step fun K hK => by rw [if_pos hw]; exact h K hK
/-- The same behind a guard that lets it run. -/
theorem wpList_appG {ops : Array Oper} {rest : List Oper} {o : Oper} {a : Act} {Q : Exit → Act → World → Prop} {w : World} (hgd : Region.wanted o (yielded ops a.tmps) = true) (s x : Operand)
    (ho : o.op = .call { callee := .builtin .append, args := #[s, x], argTypes := #[22, 22] }) (hty : o.type = 22)
    (B : Nat) (A : Option Addr) (n c : Nat) (l0 : List UInt8) (hs : a.eval s = .slice A n c) (h : Own w B A n c l0) (S : Option Addr) (m d : Nat) (l : List UInt8) (Bs : Nat) (hx : a.eval x = .slice S m d) (hr : Rd w Bs S m l)
    (N : Nat) (hN : n + m = N) (L : List UInt8) (hL : l0 ++ l = L) (hb : N ≤ 140737488355328) (hB : B ≤ w.heap.size)
    (hK : ∀ A' c' w', Own w' B A' N c' L → Below B w w' → wpList Tryd.prog ops Q rest (a.put o.dst (.slice A' N c')) w') : wpList Tryd.prog ops Q (o :: rest) a w := by
  subst hN; subst hL
  refine wpList_wantedB hgd fun K hk => ?_
  obtain ⟨A', c', w', hrun, h1, h2⟩ := run_app w B A n c l0 h S m d l Bs hr hb hB
  unfold Oper.wp execOp
  simp only [ho, hty, resolve, invoke, builtin, Sem.run_bind, Sem.run_pure, Result.andThen_ok, List.map_toArray, List.map_cons, List.map_nil, hs, hx, hrun]
  exact hk _ _ (hK A' c' w' h1 h2)

/-- A text out of what a slice holds. -/
def str (l : List UInt8) : ByteArray := ⟨l.toArray⟩
theorem run_conv (w : World) (B : Nat) (A : Option Addr) (n c : Nat) (l : List UInt8) (h : Rd w B A n l) :
    (convert 22 9 (.slice A n c)).run Tryd.prog w = .ok (.string (str l)) w := by
  rcases A with _ | ad
  · have hn : n = 0 := by
      rcases Nat.eq_zero_or_pos n with h0 | h0
      · exact h0
      · obtain ⟨_, h1, _⟩ := h.2 h0
        cases h1
    subst hn
    obtain rfl : l = [] := List.eq_nil_of_length_eq_zero h.1
    rw [run_convert_bytes_string w _ _ _ _ _ _ Tryd.underlying22 Tryd.underlying5 Tryd.underlying9]
    simp [Conv.bytesToString]
    rfl
  · obtain rfl := h.1
    exact run_convert_bytes_back w 22 9 5 ad c l Tryd.underlying22 Tryd.underlying5 Tryd.underlying9 fun j hj => by
      obtain ⟨ad', h1, _, hc⟩ := h.2 (by omega)
      injection h1 with h1
      subst h1
      exact hc j hj

theorem made_bytes (z : Value) (n : Nat) : (madeCells #[z] n).toList = List.replicate n z := by
  apply List.ext_getElem
  · simp [size_madeCells]
  · intro i h1 h2
    simp [madeCells]
    rw [Nat.mod_one]
    simp
/-- make: n noughts, room for N. -/
theorem wpList_mk {ops : Array Oper} {rest : List Oper} {o : Oper} {a : Act} {Q : Exit → Act → World → Prop} {w : World} (hgd : o.guard = none) (s x : Operand)
    (ho : o.op = .makeSlice 22 s x) (B : Nat) (n N : Nat) (C : Int) (hs : a.eval s = .int .i64 (n : Int)) (hx : a.eval x = .int .i64 C) (hC : C = (N : Int)) (hn : n ≤ N) (hN : N ≤ 281474976710656) (hB : B ≤ w.heap.size)
    (hK : ∀ w', Own w' B (some ⟨w.heap.size, 0, none⟩) n N (List.replicate n 0) → Below B w w' → wpList Tryd.prog ops Q rest (a.put o.dst (.slice (some ⟨w.heap.size, 0, none⟩) n N)) w') : wpList Tryd.prog ops Q (o :: rest) a w := by
  refine wpList_plain hgd fun K hk => ?_
  obtain ⟨i, hi, hz, hsz, hby⟩ := info_parts u8_info
  subst hC
  have hr := run_make (P := Tryd.prog) w 22 5 i _ Tryd.underlying22 hi hz .i64 .i64 n N (by omega) (by omega) (by rw [hby]; omega) (by omega)
  rw [hsz] at hr
  simp only [Int.toNat_natCast, Nat.mul_one] at hr
  unfold Oper.wp
  simp [execOp, ho, hs, hx, hr, Result.andThen]
  refine hk _ _ (hK _ ?_ ((Below.refl _ _).alloc hB _))
  refine ⟨by simp [bs], .inr ⟨w.heap.size, N, _, rfl, hB, heap_alloc_new w _, hn, by unfold maxLen; omega, by simp [size_madeCells], ?_⟩⟩
  show (madeCells #[Value.int .u8 0] N).toList.take (n * 1) = _
  rw [made_bytes, Nat.mul_one, List.take_replicate, bs, List.map_replicate, Nat.min_eq_left hn]
  rfl
/-- copy into a row of the call's own, as many as it is long. -/
theorem wpList_cp {ops : Array Oper} {rest : List Oper} {o : Oper} {a : Act} {Q : Exit → Act → World → Prop} {w : World} (hgd : o.guard = none) (s x : Operand)
    (ho : o.op = .call { callee := .builtin .copy, args := #[s, x], argTypes := #[22, 22] }) (B g n c m d : Nat) (l0 : List UInt8) (hs : a.eval s = .slice (some ⟨g, 0, none⟩) n c) (h : Own w B (some ⟨g, 0, none⟩) n c l0)
    (S : Option Addr) (l : List UInt8) (Bs : Nat) (hx : a.eval x = .slice S m d) (hr : Rd w Bs S m l) (hnm : n ≤ m)
    (hK : ∀ w', Own w' B (some ⟨g, 0, none⟩) n c (l.take n) → Below B w w' → wpList Tryd.prog ops Q rest (a.put o.dst (goInt (n : Nat))) w') : wpList Tryd.prog ops Q (o :: rest) a w := by
  have hsz : (Tryd.prog.info? 5).map (·.size) = some 1 := by kernel_rfl
  rcases Nat.eq_zero_or_pos n with h0 | h0
  · subst h0
    refine wpList_copy_nothing hgd s x 22 22 ho 5 Tryd.underlying22 hsz _ _ 0 c m d hs hx (by simp) ?_
    refine hK w ?_ (Below.refl _ _)
    have e : l0 = [] := List.eq_nil_of_length_eq_zero h.len
    subst e
    simpa using h
  · obtain ⟨ad, rfl, _, hc⟩ := hr.2 (by omega)
    rcases h.2 with ⟨hv, _⟩ | ⟨g', c', cur, hv, hbg, hg, hnc, hcm, hcs, htake⟩
    · cases hv
    · simp only [Value.slice.injEq, Option.some.injEq, Addr.mk.injEq, and_true, true_and] at hv
      obtain ⟨rfl, rfl⟩ := hv
      have hl : (bs (l.take n)).length = n := by rw [bs_length, List.length_take, hr.1]; omega
      refine wpList_copy_own hgd s x 22 22 ho 5 Tryd.underlying22 hsz g 0 n c ad m d hs hx cur 5 hg (bs (l.take n)) (by rw [hl]; exact (Nat.min_eq_right hnm).symm)
        (fun j u hu => ?_) (by rw [hl, hcs]; omega) (bs_one _) ?_
      · obtain ⟨hj, rfl⟩ := bs_get _ j u hu
        rw [List.length_take] at hj
        rw [List.getElem_take]
        exact hc j (by omega)
      · have hz : ((bs (l.take n)).length : Nat) = n := hl
        have := hK (w.setRow g (cur.toList.take 0 ++ (bs (l.take n) ++ cur.toList.drop (0 + (bs (l.take n)).length))).toArray) ?_ (below_setRow (Below.refl _ _) hbg _)
        · rwa [hz] at this ⊢
        · refine ⟨by rw [hl]; omega, .inr ⟨g, c, _, rfl, hbg, setRow_heap w g cur _ 5 _ hg, hnc, hcm, ?_, ?_⟩⟩
          · simp only [List.size_toArray, List.length_append, List.length_take, List.length_drop, Array.length_toList, hl, hcs]
            omega
          · simp only [List.take_zero, List.nil_append, Nat.mul_one]
            exact List.take_left' hl
/-- A row that is not empty: its block. -/
theorem Own.at_ {w : World} {B n c : Nat} {A : Option Addr} {l : List UInt8} (h : Own w B A n c l) (hn : 0 < n) : ∃ g, A = some ⟨g, 0, none⟩ ∧ B ≤ g := by
  obtain ⟨g, cap, hv, hb, _⟩ := h.form hn
  injection hv with h1
  exact ⟨g, h1, hb⟩
theorem Own.cell {w : World} {B n c g : Nat} {l : List UInt8} (h : Own w B (some ⟨g, 0, none⟩) n c l) {k : Nat} {b : UInt8} (hb : l[k]? = some b) : w.cell? ⟨g, k, none⟩ = some (.int .u8 (b.toNat : Int)) := by
  obtain ⟨hk, rfl⟩ := List.getElem?_eq_some_iff.1 hb
  have := h.len
  rw [World.ownsRow.cellAt h k (by omega)]
  simp [bs, hk]
theorem Own.free {w : World} {B n c g : Nat} {l : List UInt8} (h : Own w B (some ⟨g, 0, none⟩) n c l) (k : Nat) : w.frozen? ⟨g, k, none⟩ = false := World.ownsRow.frozenAt h k
theorem Own.store {w : World} {B n c g : Nat} {l : List UInt8} (h : Own w B (some ⟨g, 0, none⟩) n c l) (k : Nat) (b : UInt8) : Own (w.setCell ⟨g, k, none⟩ (.int .u8 (b.toNat : Int))) B (some ⟨g, 0, none⟩) n c (l.set k b) := by
  have := (World.ownsRow.stored h k (.int .u8 (b.toNat : Int))).1
  unfold Own bs
  rw [List.map_set]
  exact this
theorem bx8 (a b : UInt8) : bits .xor .u8 (a.toNat : Int) (b.toNat : Int) = ((a ^^^ b).toNat : Int) := by
  have ha : a.toNat < 256 := a.toBitVec.isLt
  have hb : b.toNat < 256 := b.toBitVec.isLt
  rw [u8_xor_nat _ _ ha hb, UInt8.toNat_xor]
/-- A row is as it was where no block from its base on has turned. -/
theorem Own.other {w w' : World} {B n c : Nat} {A : Option Addr} {l : List UInt8} (h : Own w B A n c l) (hk : ∀ b, B ≤ b → b < w.heap.size → w'.heap[b]? = w.heap[b]?) : Own w' B A n c l := by
  refine ⟨h.1, ?_⟩
  rcases h.2 with hv | ⟨g, cap, cur, hv, hbg, hg, r⟩
  · exact .inl hv
  · refine .inr ⟨g, cap, cur, hv, hbg, ?_, r⟩
    have hlt : g < w.heap.size := by
      rcases Nat.lt_or_ge g w.heap.size with h | h
      · exact h
      · rw [Array.getElem?_eq_none h] at hg; cases hg
    rw [hk g hbg hlt, hg]
theorem Own.weak {w : World} {B B' n c : Nat} {A : Option Addr} {l : List UInt8} (h : Own w B A n c l) (hB : B' ≤ B) : Own w B' A n c l :=
  ⟨h.1, h.2.elim .inl fun ⟨g, cap, cur, hv, hbg, r⟩ => .inr ⟨g, cap, cur, hv, Nat.le_trans hB hbg, r⟩⟩
/-- append onto a row whose block is known: rows that are no longer than it was are as they were, and no other old block has turned. -/
theorem run_app_keep (w : World) (B g n c : Nat) (l0 : List UInt8) (h : Own w B (some ⟨g, 0, none⟩) n c l0) (S : Option Addr) (m d : Nat) (l : List UInt8) (Bs : Nat) (hr : Rd w Bs S m l)
    (hb : n + m ≤ 140737488355328) (hB : B ≤ w.heap.size) :
    ∃ g' c' w', (Builtin.append_ #[22, 22] 22 #[.slice (some ⟨g, 0, none⟩) n c, .slice S m d]).run Tryd.prog w = .ok (.slice (some ⟨g', 0, none⟩) (n + m) c') w' ∧ Own w' B (some ⟨g', 0, none⟩) (n + m) c' (l0 ++ l) ∧ Below B w w' ∧
      (∀ b, b < w.heap.size → b ≠ g → w'.heap[b]? = w.heap[b]?) ∧ ∀ B' A' n' c' l', n' ≤ n → Own w B' A' n' c' l' → Own w' B' A' n' c' l' := by
  obtain ⟨i, hi, hz, hs, hby⟩ := info_parts u8_info
  rcases S with _ | ad
  · have hm : m = 0 := by
      rcases Nat.eq_zero_or_pos m with h0 | h0
      · exact h0
      · obtain ⟨_, h1, _⟩ := hr.2 h0
        cases h1
    subst hm
    obtain rfl : l = [] := List.eq_nil_of_length_eq_zero hr.1
    exact ⟨g, c, w, append_nil_src w B _ n c d l0 h, by simpa using h, Below.refl _ _, fun _ _ _ => rfl, fun _ _ _ _ _ _ h => h⟩
  have hl : (bs l).length = m * i.size := by rw [bs_length, hr.1, hs]; omega
  have hnews : ∀ j u, (bs l)[j]? = some u → w.cell? (ad.add j) = some u := fun j u hu => by
    obtain ⟨hj, rfl⟩ := bs_get l j u hu
    obtain ⟨ad', h1, _, hc⟩ := hr.2 (by have := hr.1; omega)
    injection h1 with h1
    subst h1
    exact hc j hj
  rcases h.2 with ⟨hv, _⟩ | ⟨g', cap, cur, hv, hbg, hg, hnc, hcm, hcs, htake⟩
  · cases hv
  · simp only [Value.slice.injEq, Option.some.injEq, Addr.mk.injEq, and_true, true_and] at hv
    obtain ⟨rfl, rfl⟩ := hv
    have hglt : g < w.heap.size := (Array.getElem?_eq_some_iff.1 hg).1
    have hlen0 : (bs l0).length = n * 1 := h.1
    have hlenl : (bs l).length = m * 1 := by rw [hl, hs]
    by_cases hroom : n + m ≤ c
    · have hrun := run_append_room (P := Tryd.prog) w 22 22 5 i Tryd.underlying22 hi g n c cur hg ad m d (bs l) hl hnews (bs_one l) hroom (by rw [hl, hs, hcs]; omega)
      rw [hs, htake, hlenl] at hrun
      have ec : cur.toList.length = c * 1 := by rw [Array.length_toList]; exact hcs
      have hsize : (bs l0 ++ bs l ++ cur.toList.drop (n * 1 + m * 1)).length = c * 1 := by
        rw [List.length_append, List.length_append, List.length_drop, ec, hlen0, hlenl]; omega
      refine ⟨_, _, _, hrun, ⟨?_, .inr ⟨g, c, _, rfl, hbg, setRow_heap w g cur _ _ _ hg, hroom, hcm, hsize, ?_⟩⟩, ?_, fun b _ hne => setRow_other w g b _ hne, fun B' A' n' c' l' hn' ho => ?_⟩
      · rw [bs_append, List.length_append, hlen0, hlenl]; omega
      · rw [bs_append]
        exact List.take_left' (by rw [List.length_append, hlen0, hlenl]; omega)
      · exact below_setRow (Below.refl _ _) hbg _
      · refine ⟨ho.1, ?_⟩
        rcases ho.2 with hv | ⟨g2, cap2, cur2, hv, hb2, hg2, hnc2, hcm2, hcs2, ht2⟩
        · exact .inl hv
        · refine .inr ⟨g2, cap2, ?_⟩
          by_cases e : g2 = g
          · subst e
            rw [hg] at hg2
            injection hg2 with hg2
            injection hg2 with hg2
            subst hg2
            have ecap : cap2 = c := by omega
            subst ecap
            refine ⟨_, hv, hb2, setRow_heap w g2 cur _ _ _ hg, hnc2, hcm2, hsize, ?_⟩
            have h5 : (bs l0 ++ bs l ++ cur.toList.drop (n * 1 + m * 1)).take (n' * 1) = (cur.toList.take (n * 1)).take (n' * 1) := by
              rw [htake, List.append_assoc, List.take_append_of_le_length (by rw [hlen0]; omega)]
            show (bs l0 ++ bs l ++ cur.toList.drop (n * 1 + m * 1)).take (n' * 1) = _
            rw [h5, List.take_take, Nat.min_eq_left (by omega), ht2]
          · exact ⟨cur2, hv, hb2, (setRow_other w g g2 _ e).trans hg2, hnc2, hcm2, hcs2, ht2⟩
    · have holds : ∀ j u, (bs l0)[j]? = some u → w.cell? ((⟨g, 0, none⟩ : Addr).add j) = some u := World.ownsRow.cells h (g := g) rfl
      have hfit : Builtin.nextslicecap (n + m) c * i.bytes ≤ 281474976710656 := growslice_fits (by omega) (by rw [hby]; omega)
      have hrun := run_append_grow (P := Tryd.prog) w 22 22 5 i _ Tryd.underlying22 hi hz ⟨g, 0, none⟩ n c (bs l0) (by rw [hs]; exact h.1) holds ad m d (bs l) hl hnews (by omega) (by omega) hfit
      have hge := grownCap_ge w (n + m) c 5
      have hcm' : grownCap w (n + m) c 5 ≤ maxLen := grownCap_le_maxLen w (n + m) c 5 (by unfold maxLen; omega)
      refine ⟨_, _, _, hrun, ⟨?_, .inr ⟨w.heap.size, _, _, rfl, hB, heap_alloc_new w.drew _, hge, hcm', ?_, ?_⟩⟩, ((Below.refl _ _).drew).alloc hB _, fun b hb _ => Below.heap_alloc w.drew _ b hb, fun B' A' n' c' l' _ ho => ho.other fun b _ hb => Below.heap_alloc w.drew _ b hb⟩
      · rw [bs_append, List.length_append, hlen0, hlenl]; omega
      · have e0 : (bs l0).toArray.size = n := by rw [List.size_toArray, hlen0]; omega
        have e1 : (bs l).toArray.size = m := by rw [List.size_toArray, hlenl]; omega
        have e2 : (Value.int .u8 0).cells.size = 1 := rfl
        rw [Array.size_append, Array.size_append, size_zeroCells, e0, e1, e2]; omega
      · rw [bs_append]
        simp only [Array.toList_append]
        exact List.take_left' (by rw [List.length_append, hlen0, hlenl]; omega)
theorem wpList_appK {ops : Array Oper} {rest : List Oper} {o : Oper} {a : Act} {Q : Exit → Act → World → Prop} {w : World} (hgd : Region.wanted o (yielded ops a.tmps) = true) (s x : Operand)
    (ho : o.op = .call { callee := .builtin .append, args := #[s, x], argTypes := #[22, 22] }) (hty : o.type = 22)
    (B g n c : Nat) (l0 : List UInt8) (hs : a.eval s = .slice (some ⟨g, 0, none⟩) n c) (h : Own w B (some ⟨g, 0, none⟩) n c l0) (S : Option Addr) (m d : Nat) (l : List UInt8) (Bs : Nat) (hx : a.eval x = .slice S m d) (hr : Rd w Bs S m l)
    (N : Nat) (hN : n + m = N) (L : List UInt8) (hL : l0 ++ l = L) (hb : N ≤ 140737488355328) (hB : B ≤ w.heap.size)
    (hK : ∀ g' c' w', Own w' B (some ⟨g', 0, none⟩) N c' L → Below B w w' → (∀ B' A' n' c' l', n' ≤ n → Own w B' A' n' c' l' → Own w' B' A' n' c' l') → wpList Tryd.prog ops Q rest (a.put o.dst (.slice (some ⟨g', 0, none⟩) N c')) w') : wpList Tryd.prog ops Q (o :: rest) a w := by
  subst hN; subst hL
  refine wpList_wantedB hgd fun K hk => ?_
  obtain ⟨g', c', w', hrun, h1, h2, _, h3⟩ := run_app_keep w B g n c l0 h S m d l Bs hr hb hB
  unfold Oper.wp execOp
  simp only [ho, hty, resolve, invoke, builtin, Sem.run_bind, Sem.run_pure, Result.andThen_ok, List.map_toArray, List.map_cons, List.map_nil, hs, hx, hrun]
  exact hk _ _ (hK g' c' w' h1 h2 h3)
theorem run_mk (w : World) (B n : Nat) (hN : n ≤ 281474976710656) (hB : B ≤ w.heap.size) :
    ∃ w', (Instr.makeSlice 22 (.int .i64 (n : Int)) (.int .i64 (n : Int))).run Tryd.prog w = .ok (.slice (some ⟨w.heap.size, 0, none⟩) n n) w' ∧ Own w' B (some ⟨w.heap.size, 0, none⟩) n n (List.replicate n 0) ∧ Below w.heap.size w w' := by
  obtain ⟨i, hi, hz, hsz, hby⟩ := info_parts u8_info
  have hr := run_make (P := Tryd.prog) w 22 5 i _ Tryd.underlying22 hi hz .i64 .i64 n n (by omega) (by omega) (by rw [hby]; omega) (by omega)
  rw [hsz] at hr
  simp only [Int.toNat_natCast, Nat.mul_one] at hr
  refine ⟨_, hr, ⟨by simp [bs], .inr ⟨w.heap.size, n, _, rfl, hB, heap_alloc_new w _, Nat.le_refl _, by unfold maxLen; omega, by simp [size_madeCells], ?_⟩⟩, (Below.refl _ _).alloc (Nat.le_refl _) _⟩
  show (madeCells #[Value.int .u8 0] n).toList.take (n * 1) = _
  rw [made_bytes, Nat.mul_one, List.take_replicate, bs, List.map_replicate, Nat.min_self]
  rfl
theorem Own.here {w w' : World} {B n c g : Nat} {l : List UInt8} (h : Own w B (some ⟨g, 0, none⟩) n c l) (hk : w'.heap[g]? = w.heap[g]?) : Own w' B (some ⟨g, 0, none⟩) n c l := by
  refine ⟨h.1, ?_⟩
  rcases h.2 with hv | ⟨g', cap, cur, hv, hbg, hg, r⟩
  · exact .inl hv
  · have e : g = g' := by injection hv with h1; injection h1 with h1; injection h1
    subst e
    exact .inr ⟨g, cap, cur, hv, hbg, hk.trans hg, r⟩
theorem Own.low {w : World} {B n c g : Nat} {l : List UInt8} (h : Own w B (some ⟨g, 0, none⟩) n c l) : B ≤ g := by
  rcases h.2 with ⟨hv, _⟩ | ⟨g', cap, cur, hv, hbg, _⟩
  · cases hv
  · have e : g = g' := by injection hv with h1; injection h1 with h1; injection h1
    omega
theorem Own.high {w : World} {B n c g : Nat} {l : List UInt8} (h : Own w B (some ⟨g, 0, none⟩) n c l) : g < w.heap.size := (World.ownsRow.lt h g rfl).2
/-- A slice in new memory that holds l, n bytes: the call's own. -/
def Made (w : World) (n : Nat) (l : List UInt8) (e : Ending) (w' : World) : Prop :=
  ∃ A c, e = .returned (.slice A n c) ∧ Own w' w.heap.size A n c l ∧ Below w.heap.size w w'
/-- It answers true, and leaves what was there. -/
def Yes (w : World) (e : Ending) (w' : World) : Prop := e = .returned (.bool true) ∧ Below w.heap.size w w'
theorem rd_mark (w : World) (C : Array Value) (fr : Nat × Nat) (l : List UInt8) (n g : Nat) (hg : g = w.heap.size) (hn : l.length = n) (hC : C.toList = bs l) : Rd (w.alloc (.cells C 5 fr)) (w.heap.size + 1) (some ⟨g, 0, none⟩) n l := by
  subst hg
  refine ⟨hn, fun _ => ⟨_, rfl, Nat.lt_succ_self _, fun j hj => ?_⟩⟩
  have e : (⟨w.heap.size, 0, none⟩ : Addr).add j = ⟨w.heap.size, j, none⟩ := by unfold Addr.add; split <;> simp_all
  rw [e, World.cell?_alloc_mark]
  have : C[j]? = (bs l)[j]? := by rw [← hC, Array.getElem?_toList]
  rw [this]
  simp [bs, hj]
end Go.Proofs.YtomaommamjhmmaaDoor
