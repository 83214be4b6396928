/- The walks of VecHashes and VecChanges. -/
import Derived.Test.YtinflmjombcolaaVecL
namespace Go.Proofs.Ytinflmjombcolaa
open Go.RowKit
set_option linter.unusedVariables false
end Go.Proofs.Ytinflmjombcolaa
