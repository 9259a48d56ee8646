/- The chapter's example (fixed). -/
import Derived.Test.YthnoohghjcfghaaMem
namespace Go.Proofs.Ythnoohghjcfghaa
open Go.RowKit

end Go.Proofs.Ythnoohghjcfghaa
