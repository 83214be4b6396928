/- Layer 16: an int32's range. -/
import Derived.Test.YtplobfiopbncpaaDoorLaw
import Derived.Test.YtplobfiopbncpaaDoorDecL
namespace Go.Proofs.YtplobfiopbncpaaDoor
open Go.RowKit
theorem wf_i32 {a : Int} (h : (Lit.int .i32 a).wf = true) : -2147483648 ≤ a ∧ a ≤ 2147483647 := by simpa [Lit.wf, IntKind.min, IntKind.max, IntKind.signed, IntKind.bits] using h
end Go.Proofs.YtplobfiopbncpaaDoor
