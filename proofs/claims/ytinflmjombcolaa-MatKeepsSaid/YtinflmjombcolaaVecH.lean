/- The hash of a vector, and the reference's. -/
import Derived.Test.YtinflmjombcolaaVecM
import Derived.Test.YtinflmjombcolaaVecK
import Derived.Test.YtinflmjombcolaaGen
namespace Go.Proofs.Ytinflmjombcolaa
open Go.RowKit
set_option linter.unusedVariables false
theorem hsumM_nil : hsumM [] = 0 := by decide
theorem hpowM_zero : hpowM 0 = 1 := by decide
end Go.Proofs.Ytinflmjombcolaa
