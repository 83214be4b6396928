/- The reference's product, bit by bit: for all a and b its two words are those of the product. -/
import Derived.Test.YtdpcpfapleehmaaDoorFixpP
import Derived.Test.YtdpcpfapleehmaaDoorProg
import Derived.ProofKit
import Derived.Lib.Hide
namespace Go.Proofs.YtdpcpfapleehmaaDoor
open Go.RowKit
end Go.Proofs.YtdpcpfapleehmaaDoor
