/- Runs (api.Run) as pairs of ints: their cells. -/
import Derived.Test.YtionleocbjfgaaaDoorStructs
namespace Go.Proofs.YtionleocbjfgaaaDoor
open Go.RowKit

/-- A run, anywhere. -/
abbrev RunZ := Int × Int
/-- A run's cells. -/
def cellsZ (r : RunZ) : List Value := [.int .i64 r.1, .int .i64 r.2]
theorem cellsZ_length (r : RunZ) : (cellsZ r).length = 2 := rfl
theorem cellsZ_one (r : RunZ) : ∀ u ∈ cellsZ r, u.oneCell' = true := by
  intro u hu
  simp [cellsZ] at hu
  rcases hu with rfl | rfl <;> rfl
end Go.Proofs.YtionleocbjfgaaaDoor
