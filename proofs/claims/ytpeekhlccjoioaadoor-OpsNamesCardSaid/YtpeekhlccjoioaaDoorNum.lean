/- Small words that several packages' texts share. -/
import Derived.Test.YtpeekhlccjoioaaDoorKept
namespace Go.Proofs.YtpeekhlccjoioaaDoor
open Go.RowKit

/-- Do c places from a on all stand among n? -/
def holdsB (n : Nat) (a c : Int) : Bool := decide (0 ≤ a ∧ 0 ≤ c ∧ c ≤ (n : Int) - a)
theorem holdsB_iff (n : Nat) (a c : Int) : holdsB n a c = true ↔ 0 ≤ a ∧ 0 ≤ c ∧ c ≤ (n : Int) - a := by simp [holdsB]
/-- An error's number: 0, or 8 (ErrRange). -/
def errB (ok : Bool) : Int := if ok then 0 else 8
/-- What a law leaves: true, and whatever lay, as it lay. -/
def FixedPost (w : World) (e : Ending) (w' : World) : Prop := e = .returned (.bool true) ∧ Kept [] w w'
end Go.Proofs.YtpeekhlccjoioaaDoor
