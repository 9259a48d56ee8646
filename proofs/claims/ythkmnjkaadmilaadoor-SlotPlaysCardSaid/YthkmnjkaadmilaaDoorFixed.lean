/- The chapter's example (fixed). -/
import Derived.Test.YthkmnjkaadmilaaDoorMem
namespace Go.Proofs.YthkmnjkaadmilaaDoor
open Go.RowKit

end Go.Proofs.YthkmnjkaadmilaaDoor
