/- The reference's product, bit by bit: for all a and b its two words are those of the product. -/
import Derived.Test.YtplobfiopbncpaaDoorFixpP
import Derived.Test.YtplobfiopbncpaaDoorProg
import Derived.ProofKit
import Derived.Lib.Hide
namespace Go.Proofs.YtplobfiopbncpaaDoor
open Go.RowKit
end Go.Proofs.YtplobfiopbncpaaDoor
