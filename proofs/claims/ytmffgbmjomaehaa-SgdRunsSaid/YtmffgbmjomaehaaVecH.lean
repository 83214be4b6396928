/- The hash of a vector, and the reference's. -/
import Derived.Test.YtmffgbmjomaehaaVecM
import Derived.Test.YtmffgbmjomaehaaVecK
import Derived.Test.YtmffgbmjomaehaaGen
namespace Go.Proofs.Ytmffgbmjomaehaa
open Go.RowKit
set_option linter.unusedVariables false
theorem hsumM_nil : hsumM [] = 0 := by decide
theorem hpowM_zero : hpowM 0 = 1 := by decide
end Go.Proofs.Ytmffgbmjomaehaa
