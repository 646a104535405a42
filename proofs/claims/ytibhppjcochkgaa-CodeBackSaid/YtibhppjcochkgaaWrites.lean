/- Numbers, texts and flags as they are written: the program's and the document's. -/
import Derived.Test.YtibhppjcochkgaaRput
namespace Go.Proofs.Ytibhppjcochkgaa
open Go.RowKit
set_option linter.unusedSimpArgs false
set_option linter.unusedVariables false

theorem copied_at (A : Option Addr) (n cap : Nat) (l : List UInt8) (M : Int) (m : Nat) (w : World) (h : Rd w w.heap.size A n l) (hM : M = (m : Int)) (hn : n ≤ 140737488355328) (hm : m ≤ 140737488355328) :
    Calls Try.prog 22 #[.slice A n cap, .int .i64 M] w (Made w n l) := by
  subst hM; exact copied_any A n cap l m w h hn hm

set_option maxHeartbeats 400000 in
theorem put_any (A : Option Addr) (n cap : Nat) (l : List UInt8) (z : Int) (w : World) (h : Rd w w.heap.size A n l) (hn : n + 9 ≤ 140737488355328) (h1 : -9223372036854775808 ≤ z) (h2 : z ≤ 9223372036854775807) :
    Calls Try.prog 13 #[.slice A n cap, .int .i64 z] w (Made w (n + 1 + Num.wid z.natAbs) (l ++ Num.enc z)) := by
  go_enter Try.func13, Try.ntmps13
  go_wp2_with fail
  refine (copied_at A n cap l 9 9 w h rfl (by omega) (by omega)).mono ?_
  rintro e w1 ⟨A1, c1, rfl, hw1, hb1⟩
  go_wp2_with fail
  refine (number_any A1 n c1 w.heap.size l z w1 hw1 hb1.size hn h1 h2).mono ?_
  rintro e w2 ⟨A2, c2, rfl, hw2, hb2⟩
  go_wp2_with fail
  go_ret
  exact ⟨A2, c2, rfl, hw2, hb1.trans hb2⟩

theorem wid_size (n : Nat) (h : n ≤ 140737488355328) : Num.wid n ≤ 8 := Num.wid_le n 8 (by have : (256 : Nat) ^ 8 = 18446744073709551616 := by decide
                                                                                           omega)
set_option maxHeartbeats 400000 in
theorem text_any (A : Option Addr) (n cap : Nat) (l : List UInt8) (s : ByteArray) (w : World) (h : Rd w w.heap.size A n l) (hn : n + s.size + 9 ≤ 140737488355328) :
    Calls Try.prog 15 #[.slice A n cap, .string s] w (Made w (n + 1 + Num.wid s.size + s.size) (l ++ Num.enc s.size ++ s.data.toList)) := by
  have hw8 := wid_size s.size (by omega)
  have ea : ((s.size : Int)).natAbs = s.size := by omega
  have EA := Lib.hid ea
  clear ea
  go_enter Try.func15, Try.ntmps15
  go_wp2_with fail
  refine (copied_at A n cap l _ (9 + s.size) w h (by omega) (by omega) (by omega)).mono ?_
  rintro e w1 ⟨A1, c1, rfl, hw1, hb1⟩
  go_wp2_with fail
  refine (number_any A1 n c1 w.heap.size l s.size w1 hw1 hb1.size (by omega) (by omega) (by omega)).mono ?_
  rw [EA.out]
  rintro e w2 ⟨A2, c2, rfl, hw2, hb2⟩
  go_wp2_with (at_builtin; refine wpList_apps rfl (.tmp 14) (.tmp 15) rfl rfl w.heap.size A2 _ c2 _ rfl hw2 s rfl (n + 1 + Num.wid s.size + s.size) rfl _ rfl (by omega) ((hb1.trans hb2).size) ?_; intro A3 c3 w3 hw3 hb3)
  go_ret
  exact ⟨A3, c3, rfl, hw3, (hb1.trans hb2).trans hb3⟩
set_option maxHeartbeats 400000 in
theorem rtext_any (A : Option Addr) (n cap : Nat) (l : List UInt8) (s : ByteArray) (w : World) (h : Rd w w.heap.size A n l) (hn : n + s.size + 9 ≤ 140737488355328) :
    Calls Try.prog 10 #[.slice A n cap, .string s] w (Made w (n + 1 + Num.wid s.size + s.size) (l ++ Num.enc s.size ++ s.data.toList)) := by
  have hw8 := wid_size s.size (by omega)
  have ea : ((s.size : Int)).natAbs = s.size := by omega
  have EA := Lib.hid ea
  clear ea
  go_enter Try.func10, Try.ntmps10
  go_wp2_with fail
  refine (rput_any A n cap l s.size w h (by omega) (by omega) (by omega)).mono ?_
  rw [EA.out]
  rintro e w2 ⟨A2, c2, rfl, hw2, hb2⟩
  go_wp2_with (at_builtin; refine wpList_apps rfl (.tmp 8) (.tmp 9) rfl rfl w.heap.size A2 _ c2 _ rfl hw2 s rfl (n + 1 + Num.wid s.size + s.size) rfl _ rfl (by omega) (hb2.size) ?_; intro A3 c3 w3 hw3 hb3)
  go_ret
  exact ⟨A3, c3, rfl, hw3, hb2.trans hb3⟩
theorem put_at (A : Option Addr) (n cap : Nat) (l : List UInt8) (Z z : Int) (w : World) (h : Rd w w.heap.size A n l) (hZ : Z = z) (hn : n + 9 ≤ 140737488355328) (h1 : -9223372036854775808 ≤ z) (h2 : z ≤ 9223372036854775807) :
    Calls Try.prog 13 #[.slice A n cap, .int .i64 Z] w (Made w (n + 1 + Num.wid z.natAbs) (l ++ Num.enc z)) := by
  subst hZ; exact put_any A n cap l Z w h hn h1 h2
theorem rput_at (A : Option Addr) (n cap : Nat) (l : List UInt8) (Z z : Int) (w : World) (h : Rd w w.heap.size A n l) (hZ : Z = z) (hn : n + 9 ≤ 140737488355328) (h1 : -9223372036854775808 ≤ z) (h2 : z ≤ 9223372036854775807) :
    Calls Try.prog 7 #[.slice A n cap, .int .i64 Z] w (Made w (n + 1 + Num.wid z.natAbs) (l ++ Num.enc z)) := by
  subst hZ; exact rput_any A n cap l Z w h hn h1 h2
/-- A flag's number. -/
def fl (b : Bool) : Int := if b then 1 else 0
theorem fl_bd (b : Bool) : (-9223372036854775808 ≤ fl b ∧ fl b ≤ 9223372036854775807) := by cases b <;> decide
set_option maxHeartbeats 400000 in
theorem flag_any (A : Option Addr) (n cap : Nat) (l : List UInt8) (b : Bool) (w : World) (h : Rd w w.heap.size A n l) (hn : n + 9 ≤ 140737488355328) :
    Calls Try.prog 17 #[.slice A n cap, .bool b] w (Made w (n + 1 + Num.wid (fl b).natAbs) (l ++ Num.enc (fl b))) := by
  cases b
  · go_enter Try.func17, Try.ntmps17
    go_wp2_with fail
    refine (put_at A n cap l 0 (fl false) w h rfl (by omega) (fl_bd _).1 (fl_bd _).2).mono ?_
    rintro e w2 ⟨A2, c2, rfl, hw2, hb2⟩
    go_wp2_with fail
    go_ret
    exact ⟨A2, c2, rfl, hw2, hb2⟩
  · go_enter Try.func17, Try.ntmps17
    go_wp2_with fail
    refine (put_at A n cap l 1 (fl true) w h rfl (by omega) (fl_bd _).1 (fl_bd _).2).mono ?_
    rintro e w2 ⟨A2, c2, rfl, hw2, hb2⟩
    go_wp2_with fail
    go_ret
    exact ⟨A2, c2, rfl, hw2, hb2⟩
set_option maxHeartbeats 400000 in
theorem rflag_any (A : Option Addr) (n cap : Nat) (l : List UInt8) (b : Bool) (w : World) (h : Rd w w.heap.size A n l) (hn : n + 9 ≤ 140737488355328) :
    Calls Try.prog 18 #[.slice A n cap, .bool b] w (Made w (n + 1 + Num.wid (fl b).natAbs) (l ++ Num.enc (fl b))) := by
  cases b
  · go_enter Try.func18, Try.ntmps18
    go_wp2_with fail
    refine (rput_at A n cap l 0 (fl false) w h rfl (by omega) (fl_bd _).1 (fl_bd _).2).mono ?_
    rintro e w2 ⟨A2, c2, rfl, hw2, hb2⟩
    go_wp2_with fail
    go_ret
    exact ⟨A2, c2, rfl, hw2, hb2⟩
  · go_enter Try.func18, Try.ntmps18
    go_wp2_with fail
    refine (rput_at A n cap l 1 (fl true) w h rfl (by omega) (fl_bd _).1 (fl_bd _).2).mono ?_
    rintro e w2 ⟨A2, c2, rfl, hw2, hb2⟩
    go_wp2_with fail
    go_ret
    exact ⟨A2, c2, rfl, hw2, hb2⟩
end Go.Proofs.Ytibhppjcochkgaa
