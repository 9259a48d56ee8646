/-
  DERIVED. GIVEN WITH THE SEED: THE CARDS: each row of YtionleocbjfgaaaDoorRows.lean that lists a variable, with what it lists TIED to the program's text (the seventh form; the later family's looks); each row that meets fmt, with fmt's text TOLD by the authors' own Lean function (tested against real Go, not proved from fmt's source: count such statements apart). THE CARD IS WHAT COUNTS. Prove the row's statement (the work); the ties are given (YtionleocbjfgaaaDoorTie.lean); close each card by the builder's one call (the guide's Derived/Test/ToyasCard.lean, 'card_holds'). Laid BY PROGRAM, IN A SANDBOX (cutbox-door.mjs). By AI agents, Wed Nov 11 2026. No macro, syntax, notation, axiom, sorry.
-/
import Derived.Test.YtionleocbjfgaaaDoorRows
import GoSem.ClaimSeven
namespace Go.Proofs.YtionleocbjfgaaaDoor
namespace Rows

/-- THE TIED CARD OF 'kraallaw18.SweepMissing'. -/
def sweepMissingCard : Claim7 := { stood := { row := sweepMissingRow, standIns := [], harness := (true, "a3cf9fe4b76aa0f884311181e236c03f43a20431bad46b25279b006e0d0c4536"), looks := false }, kinds := [], alts := [], laidByText := true, laidKinds := [.data], laidTests := true, laidLooks := .later }
def SweepMissingCardSaid : Prop := Claim7.holds Tryd.pinned (.plain (OpenSpec.ofChange sweepMissingSpec)) sweepMissingCard

/-- THE TIED CARD OF 'kraallaw18.SweepScalars'. -/
def sweepScalarsCard : Claim7 := { stood := { row := sweepScalarsRow, standIns := [], harness := (true, "a3cf9fe4b76aa0f884311181e236c03f43a20431bad46b25279b006e0d0c4536"), looks := false }, kinds := [], alts := [], laidByText := true, laidKinds := [.data], laidTests := true, laidLooks := .later }
def SweepScalarsCardSaid : Prop := Claim7.holds Tryd.pinned (.plain (OpenSpec.ofChange sweepScalarsSpec)) sweepScalarsCard

/-- THE SECOND FORM's CARD OF 'kraallaw18.SweepMissing'. -/
def sweepMissingUptoCard : Claim7 := { stood := { row := sweepMissingUptoRow, standIns := [], harness := (true, "a3cf9fe4b76aa0f884311181e236c03f43a20431bad46b25279b006e0d0c4536"), looks := false }, kinds := [], alts := [], laidByText := true, laidKinds := [.data], laidTests := true, laidLooks := .later }
def SweepMissingUptoCardSaid : Prop := Claim7.holds Tryd.pinned (.plain (OpenSpec.upto sweepMissingSpec)) sweepMissingUptoCard

/-- THE SECOND FORM's CARD OF 'kraallaw18.SweepScalars'. -/
def sweepScalarsUptoCard : Claim7 := { stood := { row := sweepScalarsUptoRow, standIns := [], harness := (true, "a3cf9fe4b76aa0f884311181e236c03f43a20431bad46b25279b006e0d0c4536"), looks := false }, kinds := [], alts := [], laidByText := true, laidKinds := [.data], laidTests := true, laidLooks := .later }
def SweepScalarsUptoCardSaid : Prop := Claim7.holds Tryd.pinned (.plain (OpenSpec.upto sweepScalarsSpec)) sweepScalarsUptoCard
end Rows
end Go.Proofs.YtionleocbjfgaaaDoor
