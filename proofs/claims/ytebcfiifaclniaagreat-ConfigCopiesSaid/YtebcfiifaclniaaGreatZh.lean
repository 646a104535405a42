/- Package config: rows, texts copied. -/
import Derived.Test.YtebcfiifaclniaaGreatLow8
import Derived.Test.YtebcfiifaclniaaGreatLow1
import Derived.Lib.BufferWrite
import Derived.Laws.MakeOwn
namespace Go.Proofs.YtebcfiifaclniaaGreat
open Go.RowKit Tab
set_option linter.unusedSimpArgs false
set_option linter.unusedVariables false

/-- A row of its own, with what l says. -/
def CpR (E : TypeId) (s : Nat) (n : Nat) (l : List Value) (w : World) (e : Ending) (w' : World) : Prop := ∃ (A' : Option Addr) (c' : Nat), e = .returned (.slice A' (n : Nat) c') ∧ OwnV E s w' w.heap.size A' n c' l ∧ Below w.heap.size w w'
set_option maxRecDepth 100000 in
set_option maxHeartbeats 1000000 in
theorem cpPart_any (A : Option Addr) (n c : Nat) (l : List Value) (w : World) (hr : RdV w w.heap.size A l) (hl : l.length = n * 11) (h1 : ∀ u ∈ l, u.oneCell' = true) (hb : n * 104 ≤ 140737488351232) :
    Calls Tryz.prog 12 #[.slice A n c] w (CpR 39 11 n l w) := by
  go_enter Tryz.func12, Tryz.ntmps12
  have hown : OwnV 39 11 w w.heap.size none 0 0 [] := OwnV.nil _ _ _ _
  go_wp2_with (at_builtin; go_loud (refine wpList_appV elPt rfl (.tmp 4) (.tmp 5) rfl rfl w.heap.size none 0 0 [] rfl hown A n c l _ rfl hr hl h1 (by omega) (by unfold maxLen; omega) (Nat.le_refl _) n (Nat.zero_add n) l rfl ?_; intro A2 c2 w2 hw2 hb2 _))
  go_ret
  exact ⟨A2, c2, rfl, hw2, hb2⟩
set_option maxRecDepth 100000 in
set_option maxHeartbeats 1000000 in
theorem cpChan_any (A : Option Addr) (n c : Nat) (l : List Value) (w : World) (hr : RdV w w.heap.size A l) (hl : l.length = n * 6) (h1 : ∀ u ∈ l, u.oneCell' = true) (hb : n * 48 ≤ 140737488351232) :
    Calls Tryz.prog 13 #[.slice A n c] w (CpR 47 6 n l w) := by
  go_enter Tryz.func13, Tryz.ntmps13
  have hown : OwnV 47 6 w w.heap.size none 0 0 [] := OwnV.nil _ _ _ _
  go_wp2_with (at_builtin; go_loud (refine wpList_appV elCh rfl (.tmp 4) (.tmp 5) rfl rfl w.heap.size none 0 0 [] rfl hown A n c l _ rfl hr hl h1 (by omega) (by unfold maxLen; omega) (Nat.le_refl _) n (Nat.zero_add n) l rfl ?_; intro A2 c2 w2 hw2 hb2 _))
  go_ret
  exact ⟨A2, c2, rfl, hw2, hb2⟩
set_option maxRecDepth 100000 in
set_option maxHeartbeats 1000000 in
theorem cpRows_any (A : Option Addr) (n c : Nat) (l : List Value) (w : World) (hr : RdV w w.heap.size A l) (hl : l.length = n * 1) (h1 : ∀ u ∈ l, u.oneCell' = true) (hb : n * 24 ≤ 140737488351232) :
    Calls Tryz.prog 14 #[.slice A n c] w (CpR 44 1 n l w) := by
  go_enter Tryz.func14, Tryz.ntmps14
  have hown : OwnV 44 1 w w.heap.size none 0 0 [] := OwnV.nil _ _ _ _
  go_wp2_with (at_builtin; go_loud (refine wpList_appV elNN rfl (.tmp 4) (.tmp 5) rfl rfl w.heap.size none 0 0 [] rfl hown A n c l _ rfl hr hl h1 (by omega) (by unfold maxLen; omega) (Nat.le_refl _) n (Nat.zero_add n) l rfl ?_; intro A2 c2 w2 hw2 hb2 _))
  go_ret
  exact ⟨A2, c2, rfl, hw2, hb2⟩
set_option maxRecDepth 100000 in
set_option maxHeartbeats 1000000 in
theorem cpProc_any (A : Option Addr) (n c : Nat) (l : List Value) (w : World) (hr : RdV w w.heap.size A l) (hl : l.length = n * 2) (h1 : ∀ u ∈ l, u.oneCell' = true) (hb : n * 16 ≤ 140737488351232) :
    Calls Tryz.prog 16 #[.slice A n c] w (CpR 41 2 n l w) := by
  go_enter Tryz.func16, Tryz.ntmps16
  have hown : OwnV 41 2 w w.heap.size none 0 0 [] := OwnV.nil _ _ _ _
  go_wp2_with (at_builtin; go_loud (refine wpList_appV elPc rfl (.tmp 4) (.tmp 5) rfl rfl w.heap.size none 0 0 [] rfl hown A n c l _ rfl hr hl h1 (by omega) (by unfold maxLen; omega) (Nat.le_refl _) n (Nat.zero_add n) l rfl ?_; intro A2 c2 w2 hw2 hb2 _))
  go_ret
  exact ⟨A2, c2, rfl, hw2, hb2⟩
set_option maxRecDepth 100000 in
set_option maxHeartbeats 1000000 in
theorem cpNode_any (A : Option Addr) (n c : Nat) (l : List Value) (w : World) (hr : RdV w w.heap.size A l) (hl : l.length = n * 3) (h1 : ∀ u ∈ l, u.oneCell' = true) (hb : n * 24 ≤ 140737488351232) :
    Calls Tryz.prog 17 #[.slice A n c] w (CpR 43 3 n l w) := by
  go_enter Tryz.func17, Tryz.ntmps17
  have hown : OwnV 43 3 w w.heap.size none 0 0 [] := OwnV.nil _ _ _ _
  go_wp2_with (at_builtin; go_loud (refine wpList_appV elN rfl (.tmp 4) (.tmp 5) rfl rfl w.heap.size none 0 0 [] rfl hown A n c l _ rfl hr hl h1 (by omega) (by unfold maxLen; omega) (Nat.le_refl _) n (Nat.zero_add n) l rfl ?_; intro A2 c2 w2 hw2 hb2 _))
  go_ret
  exact ⟨A2, c2, rfl, hw2, hb2⟩
theorem infoB : (Tryz.prog.info? 5).map (fun i => (i.zero, i.size, i.bytes)) = some (some (.int .u8 0), 1, 1) := by kernel_rfl
set_option maxRecDepth 100000 in
set_option maxHeartbeats 1000000 in
/-- A text made anew is the same text. -/
theorem sclone_any (s : ByteArray) (w : World) (hs : s.size ≤ 140737488351232) : Calls Tryz.prog 37 #[.string s] w (Ans (.string s) w) := by
  by_cases h0 : s.size = 0
  · obtain rfl : s = ⟨#[]⟩ := ByteArray.ext (Array.eq_empty_of_size_eq_zero h0)
    go_enter Tryz.func37, Tryz.ntmps37
    go_wp2_with fail
    go_ret
    exact Ans.mk rfl (Below.refl _ _)
  obtain ⟨i0, hi, hz0, hz1, hz2⟩ := info_parts infoB
  have hinfo : (Tryz.prog.info? 5).map (·.size) = some 1 := by rw [hi]; simp [hz1]
  have hco : Tryz.prog.cellsOf 5 = 1 := by kernel_rfl
  obtain ⟨M, hM⟩ : ∃ M, M = madeCells (Value.int .u8 0).cells (((s.size : Nat) : Int).toNat * i0.size) := ⟨_, rfl⟩
  have hMs : M.size = s.size := by rw [hM, size_madeCells, hz1]; simp
  have hmk : ∀ W : World, (Instr.makeSlice 34 (.int .i64 (s.size : Int)) (.int .i64 (s.size : Int))).run Tryz.prog W = .ok (.slice (some ⟨W.heap.size, 0, none⟩) s.size s.size) (W.alloc (.cells M 5)) := fun W => by
    have h := run_make (P := Tryz.prog) W 34 5 i0 (.int .u8 0) Tryz.underlying34 hi hz0 .i64 .i64 (s.size : Int) (s.size : Int) (by omega) (by omega) (by rw [hz2]; omega) (by omega)
    rw [← hM] at h
    simpa using h
  clear hM
  have hcp := Lib.run_copy_row_string (P := Tryz.prog) (w.alloc (.cells M 5)) 34 9 3 5 w.heap.size 0 s.size s.size s M 5 Tryz.underlying34 hinfo (heap_alloc_new w _) (Nat.le_refl _) (by omega)
  obtain ⟨Y, hY⟩ : ∃ Y, Y = (M.toList.take 0 ++ Lib.byteCells s.data.toList ++ M.toList.drop (0 + s.size)).toArray := ⟨_, rfl⟩
  rw [← hY] at hcp
  have hYl : Y.toList = Lib.byteCells s.data.toList := by
    rw [hY, List.toList_toArray, List.take_zero, List.nil_append, List.drop_of_length_le (by rw [Array.length_toList]; omega), List.append_nil]
  have hYs : Y.size = s.size := by rw [← Array.length_toList, hYl, Lib.byteCells_length, ← Lib.size_eq]
  have hgY : ((w.alloc (.cells M 5)).setRow w.heap.size Y).heap[w.heap.size]? = some (.cells Y 5 (0, 0)) := setRow_heap _ _ M _ 5 (0, 0) (heap_alloc_new w _)
  have hne : s.data.toList ≠ [] := fun e => h0 (by rw [Lib.size_eq, e]; rfl)
  have hUS := Lib.run_unsafeString_row (P := Tryz.prog) ((w.alloc (.cells M 5)).setRow w.heap.size Y) 98 3 9 5 Tryz.underlying98 hco w.heap.size Y.size (by unfold World.shape?; rw [hgY]) s.data.toList hne (by rw [← Lib.size_eq]; omega) (by rw [← Lib.size_eq]; omega)
    (fun j x hx => Lib.cells_of_row hgY Y.size j _ (by rw [List.take_of_length_le (by rw [Array.length_toList]; exact Nat.le_refl _), hYl]; simp [Lib.byteCells, hx]))
  rw [← Lib.size_eq] at hUS
  have hb1 : Below w.heap.size w (w.alloc (.cells M 5)) := bl1 w _
  have hb2 : Below w.heap.size (w.alloc (.cells M 5)) ((w.alloc (.cells M 5)).setRow w.heap.size Y) := ⟨rfl, rfl, rfl, by simp, fun k hk => setRow_other _ _ _ _ (by omega)⟩
  have HB := Lib.hid (Lib.below_freeze (hb1.trans hb2) (p := ⟨w.heap.size, 0, none⟩) (Nat.le_refl _) s.size)
  clear hY hb1 hb2
  go_enter Tryz.func37, Tryz.ntmps37
  go_wp2_with fail
  go_ret
  exact ⟨rfl, HB.out⟩
set_option maxRecDepth 100000 in
theorem sclone2_any (s : ByteArray) (w : World) (hs : s.size ≤ 140737488351232) : Calls Tryz.prog 15 #[.string s] w (Ans (.string s) w) := by
  have H := Lib.hid (sclone_any s w hs)
  go_enter Tryz.func15, Tryz.ntmps15
  go_wp2_with fail
  refine H.out.mono ?_
  rintro e w5 ⟨rfl, hb5⟩
  go_wp2_with fail
  go_ret
  exact Ans.mk rfl hb5
end Go.Proofs.YtebcfiifaclniaaGreat
