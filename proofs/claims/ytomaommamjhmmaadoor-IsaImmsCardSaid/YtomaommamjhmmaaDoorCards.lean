/-
  DERIVED. GIVEN WITH THE SEED: THE CARDS: each row of YtomaommamjhmmaaDoorRows.lean that lists a variable, with what it lists TIED to the program's text (the seventh form; the later family's looks); each row that meets fmt, with fmt's text TOLD by the authors' own Lean function (tested against real Go, not proved from fmt's source: count such statements apart). THE CARD IS WHAT COUNTS. Prove the row's statement (the work); the ties are given (YtomaommamjhmmaaDoorTie.lean); close each card by the builder's one call (the guide's Derived/Test/ToyasCard.lean, 'card_holds'). Laid BY PROGRAM, IN A SANDBOX (cutbox-door.mjs). By AI agents, Wed Nov 11 2026. No macro, syntax, notation, axiom, sorry.
-/
import Derived.Test.YtomaommamjhmmaaDoorRows
import GoSem.ClaimSeven
namespace Go.Proofs.YtomaommamjhmmaaDoor
namespace Rows

/-- THE TIED CARD OF 'horariumlaw15.IsaNumbers'. -/
def isaNumbersCard : Claim7 := { stood := { row := isaNumbersRow, standIns := [], harness := (true, "4abc1ada0505d4a9ae31c7896e5cddcf07043e03bb9b08be49b22fb5395cd80f"), looks := false }, kinds := [], alts := [], laidByText := true, laidKinds := [.data], laidTests := true, laidLooks := .later }
def IsaNumbersCardSaid : Prop := Claim7.holds Tryd.pinned (.plain (OpenSpec.ofChange isaNumbersSpec)) isaNumbersCard

/-- THE TIED CARD OF 'horariumlaw15.IsaTells'. -/
def isaTellsCard : Claim7 := { stood := { row := isaTellsRow, standIns := [], harness := (true, "4abc1ada0505d4a9ae31c7896e5cddcf07043e03bb9b08be49b22fb5395cd80f"), looks := false }, kinds := [], alts := [], laidByText := true, laidKinds := [.data], laidTests := true, laidLooks := .later }
def IsaTellsCardSaid : Prop := Claim7.holds Tryd.pinned (.plain (OpenSpec.ofChange isaTellsSpec)) isaTellsCard

/-- THE TIED CARD OF 'horariumlaw15.IsaBack'. -/
def isaBackCard : Claim7 := { stood := { row := isaBackRow, standIns := [], harness := (true, "4abc1ada0505d4a9ae31c7896e5cddcf07043e03bb9b08be49b22fb5395cd80f"), looks := false }, kinds := [], alts := [], laidByText := true, laidKinds := [.data], laidTests := true, laidLooks := .later }
def IsaBackCardSaid : Prop := Claim7.holds Tryd.pinned (.plain (OpenSpec.ofChange isaBackSpec)) isaBackCard

/-- THE TIED CARD OF 'horariumlaw15.IsaRegs'. -/
def isaRegsCard : Claim7 := { stood := { row := isaRegsRow, standIns := [], harness := (true, "4abc1ada0505d4a9ae31c7896e5cddcf07043e03bb9b08be49b22fb5395cd80f"), looks := false }, kinds := [], alts := [], laidByText := true, laidKinds := [.data], laidTests := true, laidLooks := .later }
def IsaRegsCardSaid : Prop := Claim7.holds Tryd.pinned (.plain (OpenSpec.ofChange isaRegsSpec)) isaRegsCard

/-- THE TIED CARD OF 'horariumlaw15.IsaImms'. -/
def isaImmsCard : Claim7 := { stood := { row := isaImmsRow, standIns := [], harness := (true, "4abc1ada0505d4a9ae31c7896e5cddcf07043e03bb9b08be49b22fb5395cd80f"), looks := false }, kinds := [], alts := [], laidByText := true, laidKinds := [.data], laidTests := true, laidLooks := .later }
def IsaImmsCardSaid : Prop := Claim7.holds Tryd.pinned (.plain (OpenSpec.ofChange isaImmsSpec)) isaImmsCard

/-- THE SECOND FORM's CARD OF 'horariumlaw15.IsaNumbers'. -/
def isaNumbersUptoCard : Claim7 := { stood := { row := isaNumbersUptoRow, standIns := [], harness := (true, "4abc1ada0505d4a9ae31c7896e5cddcf07043e03bb9b08be49b22fb5395cd80f"), looks := false }, kinds := [], alts := [], laidByText := true, laidKinds := [.data], laidTests := true, laidLooks := .later }
def IsaNumbersUptoCardSaid : Prop := Claim7.holds Tryd.pinned (.plain (OpenSpec.upto isaNumbersSpec)) isaNumbersUptoCard

/-- THE SECOND FORM's CARD OF 'horariumlaw15.IsaTells'. -/
def isaTellsUptoCard : Claim7 := { stood := { row := isaTellsUptoRow, standIns := [], harness := (true, "4abc1ada0505d4a9ae31c7896e5cddcf07043e03bb9b08be49b22fb5395cd80f"), looks := false }, kinds := [], alts := [], laidByText := true, laidKinds := [.data], laidTests := true, laidLooks := .later }
def IsaTellsUptoCardSaid : Prop := Claim7.holds Tryd.pinned (.plain (OpenSpec.upto isaTellsSpec)) isaTellsUptoCard

/-- THE SECOND FORM's CARD OF 'horariumlaw15.IsaBack'. -/
def isaBackUptoCard : Claim7 := { stood := { row := isaBackUptoRow, standIns := [], harness := (true, "4abc1ada0505d4a9ae31c7896e5cddcf07043e03bb9b08be49b22fb5395cd80f"), looks := false }, kinds := [], alts := [], laidByText := true, laidKinds := [.data], laidTests := true, laidLooks := .later }
def IsaBackUptoCardSaid : Prop := Claim7.holds Tryd.pinned (.plain (OpenSpec.upto isaBackSpec)) isaBackUptoCard

/-- THE SECOND FORM's CARD OF 'horariumlaw15.IsaRegs'. -/
def isaRegsUptoCard : Claim7 := { stood := { row := isaRegsUptoRow, standIns := [], harness := (true, "4abc1ada0505d4a9ae31c7896e5cddcf07043e03bb9b08be49b22fb5395cd80f"), looks := false }, kinds := [], alts := [], laidByText := true, laidKinds := [.data], laidTests := true, laidLooks := .later }
def IsaRegsUptoCardSaid : Prop := Claim7.holds Tryd.pinned (.plain (OpenSpec.upto isaRegsSpec)) isaRegsUptoCard

/-- THE SECOND FORM's CARD OF 'horariumlaw15.IsaImms'. -/
def isaImmsUptoCard : Claim7 := { stood := { row := isaImmsUptoRow, standIns := [], harness := (true, "4abc1ada0505d4a9ae31c7896e5cddcf07043e03bb9b08be49b22fb5395cd80f"), looks := false }, kinds := [], alts := [], laidByText := true, laidKinds := [.data], laidTests := true, laidLooks := .later }
def IsaImmsUptoCardSaid : Prop := Claim7.holds Tryd.pinned (.plain (OpenSpec.upto isaImmsSpec)) isaImmsUptoCard
end Rows
end Go.Proofs.YtomaommamjhmmaaDoor
