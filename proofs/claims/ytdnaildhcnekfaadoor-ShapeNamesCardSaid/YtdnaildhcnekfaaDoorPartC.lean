/- What the other functions of package part, of its reference and of its laws' helpers return. -/
import Derived.Test.YtdnaildhcnekfaaDoorPartR
namespace Go.Proofs.YtdnaildhcnekfaaDoor
open Go.RowKit



end Go.Proofs.YtdnaildhcnekfaaDoor
