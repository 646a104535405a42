/-
  No cell of these rows narrows 'for every input' (looked for: loops, veiled, ifaces, maps, wideKeys, modest, calm, conditions, laid).
  DERIVED. THE GIVEN ROWS OF THIS SEAT. 4 by the template 'for every input the law returns true; each argument reads behind the call as it read before'; 0 by the template 'total and deterministic' (their statements: YtdkngfdnfekgfaaGreatTotals.lean).
  GIVEN WITH THE SEED: the statements are not yours to turn. If you find one false, say at which input.
  Laid BY PROGRAM, IN A SANDBOX (cutbox-rows.mjs): the forced cells as the released guide's own fill.sh prints them over the translation 8fca2b005d6bbc29… (all of the seat's roots in one cut). By AI agents, Wed Nov 11 2026. No macro, syntax, notation, axiom, sorry.
-/
import Derived.Test.YtdkngfdnfekgfaaGreatChecked
import GoSem.Claim
import GoSem.ClaimJoined
import GoSem.ClaimMapViews
import Derived.JoinedTies
import Derived.KernelRfl
namespace Go.Proofs.YtdkngfdnfekgfaaGreat
/- THE CELL 'sum', in the pinned program and in every row, IS THE sha256 OF THE DUMP (.gsa) THAT YtdkngfdnfekgfaaGreatProg.lean LOADS. Nothing in Lean hashes anything: it is a label: what it is worth is what the hold of that sum in a sandbox is worth. -/
noncomputable def Tryz.pinned : Pinned := { name := "ytdkngfdnfekgfaagreat", sum := "8fca2b005d6bbc2902f8aedc9f95b860eece50207e3773643c5aa9e847b4bad1", checked := Tryz.checked }
namespace Rows
def none {H : Type} : Left H := { results := [], args := [] }

/-- 'horariumlaw14.ImageNumbers': WHATEVER THE INPUT: true; the input reads as it did. -/
def imageNumbersSpec : ChangeSpec := { name := "imageNumbers", fn := fun _ => fun
  | [] => { results := [.lit (.bool true)], args := [] }
  | _ => none }
def imageNumbersRow : OpenClaim := { program := "ytdkngfdnfekgfaagreat", sum := "8fca2b005d6bbc2902f8aedc9f95b860eece50207e3773643c5aa9e847b4bad1", func := "horarium/horariumlaw14.ImageNumbers", spec := "imageNumbers", recurses := true, apart := false }
def ImageNumbersSaid : Prop := imageNumbersRow.holds Tryz.pinned (OpenSpec.ofChange imageNumbersSpec)

/-- ITS FALSE NEIGHBOUR: 'it returns false'. Refute it at one input. -/
def imageNumbersWrong : ChangeSpec := { name := "imageNumbers", fn := fun _ => fun
  | [] => { results := [.lit (.bool false)], args := [] }
  | _ => none }
def ImageNumbersWrongFalsely : Prop := imageNumbersRow.holds Tryz.pinned (OpenSpec.ofChange imageNumbersWrong)

/-- 'horariumlaw14.ImageTells': WHATEVER THE INPUT: true; the input reads as it did. -/
def imageTellsSpec : ChangeSpec := { name := "imageTells", fn := fun _ => fun
  | [d1, d2, d3, d4, d5, d6, d7] => { results := [.lit (.bool true)], args := [d1, d2, d3, d4, d5, d6, d7] }
  | _ => none }
def imageTellsRow : OpenClaim := { program := "ytdkngfdnfekgfaagreat", sum := "8fca2b005d6bbc2902f8aedc9f95b860eece50207e3773643c5aa9e847b4bad1", func := "horarium/horariumlaw14.ImageTells", spec := "imageTells", recurses := true, apart := false }
def ImageTellsSaid : Prop := imageTellsRow.holds Tryz.pinned (OpenSpec.ofChange imageTellsSpec)

/-- ITS FALSE NEIGHBOUR: 'it returns false'. Refute it at one input. -/
def imageTellsWrong : ChangeSpec := { name := "imageTells", fn := fun _ => fun
  | [d1, d2, d3, d4, d5, d6, d7] => { results := [.lit (.bool false)], args := [d1, d2, d3, d4, d5, d6, d7] }
  | _ => none }
def ImageTellsWrongFalsely : Prop := imageTellsRow.holds Tryz.pinned (OpenSpec.ofChange imageTellsWrong)

/-- 'horariumlaw14.ImageRefuses': WHATEVER THE INPUT: true; the input reads as it did. -/
def imageRefusesSpec : ChangeSpec := { name := "imageRefuses", fn := fun _ => fun
  | [d1, d2, d3] => { results := [.lit (.bool true)], args := [d1, d2, d3] }
  | _ => none }
def imageRefusesRow : OpenClaim := { program := "ytdkngfdnfekgfaagreat", sum := "8fca2b005d6bbc2902f8aedc9f95b860eece50207e3773643c5aa9e847b4bad1", func := "horarium/horariumlaw14.ImageRefuses", spec := "imageRefuses", recurses := true, apart := false }
def ImageRefusesSaid : Prop := imageRefusesRow.holds Tryz.pinned (OpenSpec.ofChange imageRefusesSpec)

/-- ITS FALSE NEIGHBOUR: 'it returns false'. Refute it at one input. -/
def imageRefusesWrong : ChangeSpec := { name := "imageRefuses", fn := fun _ => fun
  | [d1, d2, d3] => { results := [.lit (.bool false)], args := [d1, d2, d3] }
  | _ => none }
def ImageRefusesWrongFalsely : Prop := imageRefusesRow.holds Tryz.pinned (OpenSpec.ofChange imageRefusesWrong)

/-- 'horariumlaw14.ImageSizes': WHATEVER THE INPUT: true; the input reads as it did. -/
def imageSizesSpec : ChangeSpec := { name := "imageSizes", fn := fun _ => fun
  | [d1, d2] => { results := [.lit (.bool true)], args := [d1, d2] }
  | _ => none }
def imageSizesRow : OpenClaim := { program := "ytdkngfdnfekgfaagreat", sum := "8fca2b005d6bbc2902f8aedc9f95b860eece50207e3773643c5aa9e847b4bad1", func := "horarium/horariumlaw14.ImageSizes", spec := "imageSizes", recurses := true, apart := false }
def ImageSizesSaid : Prop := imageSizesRow.holds Tryz.pinned (OpenSpec.ofChange imageSizesSpec)

/-- ITS FALSE NEIGHBOUR: 'it returns false'. Refute it at one input. -/
def imageSizesWrong : ChangeSpec := { name := "imageSizes", fn := fun _ => fun
  | [d1, d2] => { results := [.lit (.bool false)], args := [d1, d2] }
  | _ => none }
def ImageSizesWrongFalsely : Prop := imageSizesRow.holds Tryz.pinned (OpenSpec.ofChange imageSizesWrong)

/- THE SECOND FORM. 'bulk': how many values and letters a reading holds, each counted each time it is reached (what is shared counts as often as it is met; a slice's spare places count too). A statement '..UptoSaid' is the law's where the arguments, and the package variables that the reading takes, are together of bulk at most 1048576: NARROWER than '..Said'. Prove '..Said' where nothing that the law and all that it calls make is longer than what came in: it says more and counts as full. Else prove '..UptoSaid'. A law counts once. -/
mutual
def uptoBulk {H : Type} : DataW H → Nat
  | .lit (.string bytes) => bytes.length + 1
  | .lit _ => 1
  | .nil => 1
  | .ptr d => uptoBulk d + 1
  | .slice elems spare => uptoBulkAll elems + uptoBulkAll spare + 1
  | .agg parts => uptoBulkAll parts + 1
  | .iface _ d => uptoBulk d + 1
  | .map entries => uptoBulkEntries entries + 1
  | .held _ => 1
def uptoBulkAll {H : Type} : List (DataW H) → Nat
  | [] => 0
  | d :: r => uptoBulk d + uptoBulkAll r
def uptoBulkEntries {H : Type} : List (Lit × DataW H) → Nat
  | [] => 0
  | x :: r => uptoBulkEntry x + uptoBulkEntries r
def uptoBulkEntry {H : Type} : Lit × DataW H → Nat
  | (.string bytes, d) => bytes.length + uptoBulk d + 1
  | (_, d) => uptoBulk d + 1
 end
def uptoSmall : (H : Type) → List (DataW H) → Bool := fun _ ds => decide (uptoBulkAll ds ≤ 1048576)
def OpenSpec.upto (s : _root_.Go.ChangeSpec) : _root_.Go.OpenSpec := { _root_.Go.OpenSpec.ofChange s with cond := some uptoSmall }

/-- 'horariumlaw14.ImageNumbers', WHERE WHAT IT READS IS OF BULK AT MOST 1048576: true; the input reads as it did. -/
def imageNumbersUptoRow : OpenClaim := { program := "ytdkngfdnfekgfaagreat", sum := "8fca2b005d6bbc2902f8aedc9f95b860eece50207e3773643c5aa9e847b4bad1", func := "horarium/horariumlaw14.ImageNumbers", spec := "imageNumbers", recurses := true, apart := false, narrowed := true }
def ImageNumbersUptoSaid : Prop := imageNumbersUptoRow.holds Tryz.pinned (OpenSpec.upto imageNumbersSpec)

/-- 'horariumlaw14.ImageTells', WHERE WHAT IT READS IS OF BULK AT MOST 1048576: true; the input reads as it did. -/
def imageTellsUptoRow : OpenClaim := { program := "ytdkngfdnfekgfaagreat", sum := "8fca2b005d6bbc2902f8aedc9f95b860eece50207e3773643c5aa9e847b4bad1", func := "horarium/horariumlaw14.ImageTells", spec := "imageTells", recurses := true, apart := false, narrowed := true }
def ImageTellsUptoSaid : Prop := imageTellsUptoRow.holds Tryz.pinned (OpenSpec.upto imageTellsSpec)

/-- 'horariumlaw14.ImageRefuses', WHERE WHAT IT READS IS OF BULK AT MOST 1048576: true; the input reads as it did. -/
def imageRefusesUptoRow : OpenClaim := { program := "ytdkngfdnfekgfaagreat", sum := "8fca2b005d6bbc2902f8aedc9f95b860eece50207e3773643c5aa9e847b4bad1", func := "horarium/horariumlaw14.ImageRefuses", spec := "imageRefuses", recurses := true, apart := false, narrowed := true }
def ImageRefusesUptoSaid : Prop := imageRefusesUptoRow.holds Tryz.pinned (OpenSpec.upto imageRefusesSpec)

/-- 'horariumlaw14.ImageSizes', WHERE WHAT IT READS IS OF BULK AT MOST 1048576: true; the input reads as it did. -/
def imageSizesUptoRow : OpenClaim := { program := "ytdkngfdnfekgfaagreat", sum := "8fca2b005d6bbc2902f8aedc9f95b860eece50207e3773643c5aa9e847b4bad1", func := "horarium/horariumlaw14.ImageSizes", spec := "imageSizes", recurses := true, apart := false, narrowed := true }
def ImageSizesUptoSaid : Prop := imageSizesUptoRow.holds Tryz.pinned (OpenSpec.upto imageSizesSpec)

end Rows
end Go.Proofs.YtdkngfdnfekgfaaGreat
