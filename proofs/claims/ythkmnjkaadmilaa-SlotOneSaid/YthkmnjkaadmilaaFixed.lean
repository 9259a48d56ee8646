/- The chapter's example (fixed). -/
import Derived.Test.YthkmnjkaadmilaaMem
namespace Go.Proofs.Ythkmnjkaadmilaa
open Go.RowKit

end Go.Proofs.Ythkmnjkaadmilaa
