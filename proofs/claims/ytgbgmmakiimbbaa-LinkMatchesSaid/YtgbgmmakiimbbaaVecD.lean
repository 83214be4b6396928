/- The first difference of two vectors, and the reference's. -/
import Derived.Test.YtgbgmmakiimbbaaVecM
import Derived.Test.YtgbgmmakiimbbaaGen
import Derived.Test.YtgbgmmakiimbbaaProg
import Derived.LoopN
import Derived.ProofKit
namespace Go.Proofs.Ytgbgmmakiimbbaa
open Go.RowKit
set_option linter.unusedVariables false
theorem cut0 (a : Option Addr) (k c s : Nat) : cutv a 0 k c s = .slice a k c := by
  unfold cutv sliced
  cases a with
  | none => split <;> simp
  | some a => split <;> simp [Addr.add]
end Go.Proofs.Ytgbgmmakiimbbaa
