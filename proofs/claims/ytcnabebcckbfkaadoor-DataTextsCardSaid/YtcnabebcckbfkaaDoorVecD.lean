/- The first difference of two vectors, and the reference's. -/
import Derived.Test.YtcnabebcckbfkaaDoorVecM
import Derived.Test.YtcnabebcckbfkaaDoorGen
import Derived.Test.YtcnabebcckbfkaaDoorProg
import Derived.LoopN
import Derived.ProofKit
namespace Go.Proofs.YtcnabebcckbfkaaDoor
open Go.RowKit
set_option linter.unusedVariables false
theorem cut0 (a : Option Addr) (k c s : Nat) : cutv a 0 k c s = .slice a k c := by
  unfold cutv sliced
  cases a with
  | none => split <;> simp
  | some a => split <;> simp [Addr.add]
end Go.Proofs.YtcnabebcckbfkaaDoor
