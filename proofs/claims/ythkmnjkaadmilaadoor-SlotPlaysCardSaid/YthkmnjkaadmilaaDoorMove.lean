/- Package words: Move. -/
import Derived.Test.YthkmnjkaadmilaaDoorHolds
import Derived.Test.YthkmnjkaadmilaaDoorFalling
import Derived.Test.YthkmnjkaadmilaaDoorRegion
import Derived.Test.YthkmnjkaadmilaaDoorMoved
namespace Go.Proofs.YthkmnjkaadmilaaDoor
open Go.RowKit Go.Shelf

attribute [local go_sem] Oper.semAt_some

/-- May c words from a on be moved to to? -/
def mayMove (n : Nat) (a c to : Int) : Bool := holdsB n a c && holdsB n to c
def mvB (xs : List Int) (a c to : Int) : List Int := if mayMove xs.length a c to then moved xs a.toNat c.toNat to.toNat else xs
theorem mvB_length (xs : List Int) (a c to : Int) : (mvB xs a c to).length = xs.length := by
  unfold mvB; split
  · exact moved_length _ _ _ _
  · rfl

def MovePost (b g : Nat) (xs : List Int) (a c to : Int) (w : World) (e : Ending) (w' : World) : Prop :=
  e = .returned (.int .i64 (errB (mayMove xs.length a c to))) ∧ IsMem w' b g (mvB xs a c to) ∧ Kept [g] w w'

end Go.Proofs.YthkmnjkaadmilaaDoor
