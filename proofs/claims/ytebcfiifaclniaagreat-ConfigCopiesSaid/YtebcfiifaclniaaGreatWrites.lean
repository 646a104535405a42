/- Numbers, texts and flags as they are written: the program's and the document's. -/
import Derived.Test.YtebcfiifaclniaaGreatRput
namespace Go.Proofs.YtebcfiifaclniaaGreat
set_option maxRecDepth 100000
open Go.RowKit
set_option linter.unusedSimpArgs false
set_option linter.unusedVariables false

theorem wid_size (n : Nat) (h : n ≤ 140737488355328) : Num.wid n ≤ 8 := Num.wid_le n 8 (by have : (256 : Nat) ^ 8 = 18446744073709551616 := by decide
                                                                                           omega)
set_option maxHeartbeats 400000 in
theorem rtext_any (A : Option Addr) (n cap : Nat) (l : List UInt8) (s : ByteArray) (w : World) (h : Rd w w.heap.size A n l) (hn : n + s.size + 9 ≤ 140737488355328) :
    Calls Tryz.prog 24 #[.slice A n cap, .string s] w (Made w (n + 1 + Num.wid s.size + s.size) (l ++ Num.enc s.size ++ s.data.toList)) := by
  have hw8 := wid_size s.size (by omega)
  have ea : ((s.size : Int)).natAbs = s.size := by omega
  have EA := Lib.hid ea
  clear ea
  go_enter Tryz.func24, Tryz.ntmps24
  go_wp2_with fail
  refine (rput_any A n cap l s.size w h (by omega) (by omega) (by omega)).mono ?_
  rw [EA.out]
  rintro e w2 ⟨A2, c2, rfl, hw2, hb2⟩
  go_wp2_with (at_builtin; refine wpList_apps rfl (.tmp 8) (.tmp 9) rfl rfl w.heap.size A2 _ c2 _ rfl hw2 s rfl (n + 1 + Num.wid s.size + s.size) rfl _ rfl (by omega) (hb2.size) ?_; intro A3 c3 w3 hw3 hb3)
  go_ret
  exact ⟨A3, c3, rfl, hw3, hb2.trans hb3⟩
theorem rput_at (A : Option Addr) (n cap : Nat) (l : List UInt8) (Z z : Int) (w : World) (h : Rd w w.heap.size A n l) (hZ : Z = z) (hn : n + 9 ≤ 140737488355328) (h1 : -9223372036854775808 ≤ z) (h2 : z ≤ 9223372036854775807) :
    Calls Tryz.prog 23 #[.slice A n cap, .int .i64 Z] w (Made w (n + 1 + Num.wid z.natAbs) (l ++ Num.enc z)) := by
  subst hZ; exact rput_any A n cap l Z w h hn h1 h2
/-- A flag's number. -/
def fl (b : Bool) : Int := if b then 1 else 0
theorem fl_bd (b : Bool) : (-9223372036854775808 ≤ fl b ∧ fl b ≤ 9223372036854775807) := by cases b <;> decide
set_option maxHeartbeats 400000 in
theorem rflag_any (A : Option Addr) (n cap : Nat) (l : List UInt8) (b : Bool) (w : World) (h : Rd w w.heap.size A n l) (hn : n + 9 ≤ 140737488355328) :
    Calls Tryz.prog 25 #[.slice A n cap, .bool b] w (Made w (n + 1 + Num.wid (fl b).natAbs) (l ++ Num.enc (fl b))) := by
  cases b
  · go_enter Tryz.func25, Tryz.ntmps25
    go_wp2_with fail
    refine (rput_at A n cap l 0 (fl false) w h rfl (by omega) (fl_bd _).1 (fl_bd _).2).mono ?_
    rintro e w2 ⟨A2, c2, rfl, hw2, hb2⟩
    go_wp2_with fail
    go_ret
    exact ⟨A2, c2, rfl, hw2, hb2⟩
  · go_enter Tryz.func25, Tryz.ntmps25
    go_wp2_with fail
    refine (rput_at A n cap l 1 (fl true) w h rfl (by omega) (fl_bd _).1 (fl_bd _).2).mono ?_
    rintro e w2 ⟨A2, c2, rfl, hw2, hb2⟩
    go_wp2_with fail
    go_ret
    exact ⟨A2, c2, rfl, hw2, hb2⟩
end Go.Proofs.YtebcfiifaclniaaGreat
