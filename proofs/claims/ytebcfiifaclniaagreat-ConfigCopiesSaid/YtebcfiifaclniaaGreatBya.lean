/- The document's Put, Text, Flag, Seal on rows that are known by what they hold. -/
import Derived.Test.YtebcfiifaclniaaGreatWrites
import Derived.Test.YtebcfiifaclniaaGreatSea
import Derived.Test.YtebcfiifaclniaaGreatYn
namespace Go.Proofs.YtebcfiifaclniaaGreat
set_option maxRecDepth 100000
open Go.RowKit Tab
set_option linter.unusedSimpArgs false
set_option linter.unusedVariables false

/-- A row of bytes, known by what it holds. -/
def BtS (l : List UInt8) (v : Value) (w : World) : Prop := ∃ A c, v = .slice A (l.length : Nat) c ∧ Rd w w.heap.size A l.length l
theorem BtS.on {l : List UInt8} {v : Value} {w w' : World} (h : BtS l v w) (hb : Below w.heap.size w w') : BtS l v w' := by
  obtain ⟨A, c, e, hr⟩ := h
  exact ⟨A, c, e, (hr.below hb).more hb.size⟩
def BtA (l : List UInt8) (w : World) (e : Ending) (w' : World) : Prop := ∃ v, e = .returned v ∧ BtS l v w' ∧ Below w.heap.size w w'
theorem BtA.made {n : Nat} {l : List UInt8} {w w' : World} {e : Ending} (h : Made w n l e w') : BtA l w e w' := by
  obtain ⟨A, c, rfl, ho, hb⟩ := h
  have hr := ho.rd
  have hl : l.length = n := hr.1
  subst hl
  exact ⟨_, rfl, ⟨A, c, rfl, hr⟩, hb⟩
theorem put_bt (l : List UInt8) (v : Value) (z : Int) (w : World) (h : BtS l v w) (hn : l.length + 9 ≤ 140737488355328) (hz : In64 z) : Calls Tryz.prog 23 #[v, .int .i64 z] w (BtA (l ++ Num.enc z) w) := by
  obtain ⟨A, c, rfl, hr⟩ := h
  exact (rput_any A l.length c l z w hr hn hz.1 hz.2).mono fun _ _ => BtA.made
theorem text_bt (l : List UInt8) (v : Value) (s : ByteArray) (w : World) (h : BtS l v w) (hn : l.length + s.size + 9 ≤ 140737488355328) : Calls Tryz.prog 24 #[v, .string s] w (BtA (l ++ Num.enc s.size ++ s.data.toList) w) := by
  obtain ⟨A, c, rfl, hr⟩ := h
  exact (rtext_any A l.length c l s w hr hn).mono fun _ _ => BtA.made
theorem flag_bt (l : List UInt8) (v : Value) (b : Bool) (w : World) (h : BtS l v w) (hn : l.length + 9 ≤ 140737488355328) : Calls Tryz.prog 25 #[v, .bool b] w (BtA (l ++ Num.enc (fl b)) w) := by
  obtain ⟨A, c, rfl, hr⟩ := h
  exact (rflag_any A l.length c l b w hr hn).mono fun _ _ => BtA.made
theorem seal_bt (l : List UInt8) (v : Value) (w : World) (h : BtS l v w) (hn : l.length ≤ 140737488355000) : Calls Tryz.prog 26 #[v] w (BtA (Crc.seal4 l) w) := by
  obtain ⟨A, c, rfl, hr⟩ := h
  exact (rseal_any A l.length c l w hr hn).mono fun _ _ => BtA.made
theorem enc_few (z : Int) (hz : In64 z) : (Num.enc z).length ≤ 9 := by
  have := Num.enc_length z
  have := Num.wid_int z hz.1 hz.2
  omega
theorem fl_in (b : Bool) : In64 (fl b) := by cases b <;> (unfold fl In64; simp)
/-- A region of calls in a chain: what was there; the row until it is written. -/
structure ByW (k : Nat) (W0 : World) (v3 : Value) (live : Nat → Bool) (a : Act) (w : World) : Prop where
  on : Below W0.heap.size W0 w
  t3 : live k = false → a.eval (.tmp 3) = v3
theorem ByW.upd {k : Nat} {W0 : World} {v3 : Value} {live : Nat → Bool} {a : Act} {w w' : World} (h : ByW k W0 v3 live a w) (hb : Below w.heap.size w w') (i : Nat) (d : Tmp) (v : Value) (hi : i ≠ k) (hd : d ≠ 3) : ByW k W0 v3 (Rgs.upd live i) (a.put (some d) v) w' := by
  have e : Rgs.upd live i k = live k := by unfold Rgs.upd; simp [Ne.symm hi]
  exact ⟨h.on.trans (hb.mono h.on.size), fun e2 => by rw [Reg.eval_other _ _ _ _ hd]; exact h.t3 (e ▸ e2)⟩
end Go.Proofs.YtebcfiifaclniaaGreat
