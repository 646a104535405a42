/-
  DERIVED. GIVEN WITH THE SEED: THE CARDS: each row of YtfmndmhjjbeokaaGreatDoorRows.lean that lists a variable, with what it lists TIED to the program's text (the seventh form; the later family's looks); each row that meets fmt, with fmt's text TOLD by the authors' own Lean function (tested against real Go, not proved from fmt's source: count such statements apart). THE CARD IS WHAT COUNTS. Prove the row's statement (the work); the ties are given (YtfmndmhjjbeokaaGreatDoorTie.lean); close each card by the builder's one call (the guide's Derived/Test/ToyasCard.lean, 'card_holds'). Laid BY PROGRAM, IN A SANDBOX (cutbox-door.mjs). By AI agents, Wed Nov 11 2026. No macro, syntax, notation, axiom, sorry.
-/
import Derived.Test.YtfmndmhjjbeokaaGreatDoorRows
import GoSem.ClaimSeven
namespace Go.Proofs.YtfmndmhjjbeokaaGreatDoor
namespace Rows

/-- THE TIED CARD OF 'horariumlaw13.TextNumbers'. -/
def textNumbersCard : Claim7 := { stood := { row := textNumbersRow, standIns := [], harness := (true, "1cc8c350984e5df2b47274d52f60a22a132d34d3abcda4f18412352d07404bdc"), looks := false }, kinds := [], alts := [], laidByText := true, laidKinds := [.data, .data, .data], laidTests := true, laidLooks := .later }
def TextNumbersCardSaid : Prop := Claim7.holds Tryz.pinned (.plain (OpenSpec.ofChange textNumbersSpec)) textNumbersCard

/-- THE TIED CARD OF 'horariumlaw13.TextBack'. -/
def textBackCard : Claim7 := { stood := { row := textBackRow, standIns := [], harness := (true, "1cc8c350984e5df2b47274d52f60a22a132d34d3abcda4f18412352d07404bdc"), looks := false }, kinds := [], alts := [], laidByText := true, laidKinds := [.data, .data, .data], laidTests := true, laidLooks := .later }
def TextBackCardSaid : Prop := Claim7.holds Tryz.pinned (.plain (OpenSpec.ofChange textBackSpec)) textBackCard

/-- THE TIED CARD OF 'horariumlaw13.TextLines'. -/
def textLinesCard : Claim7 := { stood := { row := textLinesRow, standIns := [], harness := (true, "1cc8c350984e5df2b47274d52f60a22a132d34d3abcda4f18412352d07404bdc"), looks := false }, kinds := [], alts := [], laidByText := true, laidKinds := [.data, .data, .data], laidTests := true, laidLooks := .later }
def TextLinesCardSaid : Prop := Claim7.holds Tryz.pinned (.plain (OpenSpec.ofChange textLinesSpec)) textLinesCard

/-- THE TIED CARD OF 'horariumlaw13.TextTables'. -/
def textTablesCard : Claim7 := { stood := { row := textTablesRow, standIns := [], harness := (true, "1cc8c350984e5df2b47274d52f60a22a132d34d3abcda4f18412352d07404bdc"), looks := false }, kinds := [], alts := [], laidByText := true, laidKinds := [.data, .data, .data], laidTests := true, laidLooks := .later }
def TextTablesCardSaid : Prop := Claim7.holds Tryz.pinned (.plain (OpenSpec.ofChange textTablesSpec)) textTablesCard

/-- THE SECOND FORM's CARD OF 'horariumlaw13.TextNumbers'. -/
def textNumbersUptoCard : Claim7 := { stood := { row := textNumbersUptoRow, standIns := [], harness := (true, "1cc8c350984e5df2b47274d52f60a22a132d34d3abcda4f18412352d07404bdc"), looks := false }, kinds := [], alts := [], laidByText := true, laidKinds := [.data, .data, .data], laidTests := true, laidLooks := .later }
def TextNumbersUptoCardSaid : Prop := Claim7.holds Tryz.pinned (.plain (OpenSpec.upto textNumbersSpec)) textNumbersUptoCard

/-- THE SECOND FORM's CARD OF 'horariumlaw13.TextBack'. -/
def textBackUptoCard : Claim7 := { stood := { row := textBackUptoRow, standIns := [], harness := (true, "1cc8c350984e5df2b47274d52f60a22a132d34d3abcda4f18412352d07404bdc"), looks := false }, kinds := [], alts := [], laidByText := true, laidKinds := [.data, .data, .data], laidTests := true, laidLooks := .later }
def TextBackUptoCardSaid : Prop := Claim7.holds Tryz.pinned (.plain (OpenSpec.upto textBackSpec)) textBackUptoCard

/-- THE SECOND FORM's CARD OF 'horariumlaw13.TextLines'. -/
def textLinesUptoCard : Claim7 := { stood := { row := textLinesUptoRow, standIns := [], harness := (true, "1cc8c350984e5df2b47274d52f60a22a132d34d3abcda4f18412352d07404bdc"), looks := false }, kinds := [], alts := [], laidByText := true, laidKinds := [.data, .data, .data], laidTests := true, laidLooks := .later }
def TextLinesUptoCardSaid : Prop := Claim7.holds Tryz.pinned (.plain (OpenSpec.upto textLinesSpec)) textLinesUptoCard

/-- THE SECOND FORM's CARD OF 'horariumlaw13.TextTables'. -/
def textTablesUptoCard : Claim7 := { stood := { row := textTablesUptoRow, standIns := [], harness := (true, "1cc8c350984e5df2b47274d52f60a22a132d34d3abcda4f18412352d07404bdc"), looks := false }, kinds := [], alts := [], laidByText := true, laidKinds := [.data, .data, .data], laidTests := true, laidLooks := .later }
def TextTablesUptoCardSaid : Prop := Claim7.holds Tryz.pinned (.plain (OpenSpec.upto textTablesSpec)) textTablesUptoCard
end Rows
end Go.Proofs.YtfmndmhjjbeokaaGreatDoor
