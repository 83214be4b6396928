/- The first difference of two vectors, and the reference's. -/
import Derived.Test.YtinflmjombcolaaVecH
namespace Go.Proofs.Ytinflmjombcolaa
open Go.RowKit
set_option linter.unusedVariables false
theorem cut0 (a : Option Addr) (k c s : Nat) : cutv a 0 k c s = .slice a k c := by
  unfold cutv sliced
  cases a with
  | none => split <;> simp
  | some a => split <;> simp [Addr.add]
theorem run_vcut (a : Option Addr) (n c k : Nat) (hk : k ≤ c) (w : World) :
    (Instr.slice 27 (.slice a n c) none (some (.int .i64 (k : Int))) none).run Try.prog w = .ok (.slice a k c) w := by
  have h := run_cut_h (P := Try.prog) (T := 27) (s := 1) (by kernel_rfl) (by intro w; kernel_rfl) a n c .i64 (k : Int) (by omega) (by omega) w
  rw [cut0] at h
  simpa using h
end Go.Proofs.Ytinflmjombcolaa
