/-
  DERIVED. GIVEN WITH THE SEED: THE CARDS: each row of YtefbiofefdcbeaaDoorRows.lean that lists a variable, with what it lists TIED to the program's text (the seventh form; the later family's looks); each row that meets fmt, with fmt's text TOLD by the authors' own Lean function (tested against real Go, not proved from fmt's source: count such statements apart). THE CARD IS WHAT COUNTS. Prove the row's statement (the work); the ties are given (YtefbiofefdcbeaaDoorTie.lean); close each card by the builder's one call (the guide's Derived/Test/ToyasCard.lean, 'card_holds'). Laid BY PROGRAM, IN A SANDBOX (cutbox-door.mjs). By AI agents, Wed Nov 11 2026. No macro, syntax, notation, axiom, sorry.
-/
import Derived.Test.YtefbiofefdcbeaaDoorRows
import GoSem.ClaimSeven
namespace Go.Proofs.YtefbiofefdcbeaaDoor
namespace Rows

/-- THE TIED CARD OF 'kraallaw07.DescMay'. -/
def descMayCard : Claim7 := { stood := { row := descMayRow, standIns := [], harness := (true, "7b9662efc0bb1ed26eaf4072238b36aca322d008ad2d98b05f46fbff2c01511f"), looks := false }, kinds := [], alts := [], laidByText := true, laidKinds := [.data], laidTests := true, laidLooks := .later }
def DescMayCardSaid : Prop := Claim7.holds Tryd.pinned (.plain (OpenSpec.ofChange descMaySpec)) descMayCard

/-- THE TIED CARD OF 'kraallaw07.DescRelaxes'. -/
def descRelaxesCard : Claim7 := { stood := { row := descRelaxesRow, standIns := [], harness := (true, "7b9662efc0bb1ed26eaf4072238b36aca322d008ad2d98b05f46fbff2c01511f"), looks := false }, kinds := [], alts := [], laidByText := true, laidKinds := [.data], laidTests := true, laidLooks := .later }
def DescRelaxesCardSaid : Prop := Claim7.holds Tryd.pinned (.plain (OpenSpec.ofChange descRelaxesSpec)) descRelaxesCard

/-- THE SECOND FORM's CARD OF 'kraallaw07.DescMay'. -/
def descMayUptoCard : Claim7 := { stood := { row := descMayUptoRow, standIns := [], harness := (true, "7b9662efc0bb1ed26eaf4072238b36aca322d008ad2d98b05f46fbff2c01511f"), looks := false }, kinds := [], alts := [], laidByText := true, laidKinds := [.data], laidTests := true, laidLooks := .later }
def DescMayUptoCardSaid : Prop := Claim7.holds Tryd.pinned (.plain (OpenSpec.upto descMaySpec)) descMayUptoCard

/-- THE SECOND FORM's CARD OF 'kraallaw07.DescRelaxes'. -/
def descRelaxesUptoCard : Claim7 := { stood := { row := descRelaxesUptoRow, standIns := [], harness := (true, "7b9662efc0bb1ed26eaf4072238b36aca322d008ad2d98b05f46fbff2c01511f"), looks := false }, kinds := [], alts := [], laidByText := true, laidKinds := [.data], laidTests := true, laidLooks := .later }
def DescRelaxesUptoCardSaid : Prop := Claim7.holds Tryd.pinned (.plain (OpenSpec.upto descRelaxesSpec)) descRelaxesUptoCard
end Rows
end Go.Proofs.YtefbiofefdcbeaaDoor
