/- The reference's product, bit by bit: for all a and b its two words are those of the product. -/
import Derived.Test.YtcnabebcckbfkaaDoorFixpP
import Derived.Test.YtcnabebcckbfkaaDoorProg
import Derived.ProofKit
import Derived.Lib.Hide
namespace Go.Proofs.YtcnabebcckbfkaaDoor
open Go.RowKit
end Go.Proofs.YtcnabebcckbfkaaDoor
