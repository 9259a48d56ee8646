/- Package words: do all words of a run stand there? -/
import Derived.Test.YthkmnjkaadmilaaDoorMem
namespace Go.Proofs.YthkmnjkaadmilaaDoor
open Go.RowKit

def HoldsPost (n : Nat) (a c : Int) (w : World) (e : Ending) (w' : World) : Prop := e = .returned (.bool (holdsB n a c)) ∧ Kept [] w w'

end Go.Proofs.YthkmnjkaadmilaaDoor
