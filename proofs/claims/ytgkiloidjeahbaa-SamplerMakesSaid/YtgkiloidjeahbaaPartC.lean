/- What the other functions of package part, of its reference and of its laws' helpers return. -/
import Derived.Test.YtgkiloidjeahbaaPartR
namespace Go.Proofs.Ytgkiloidjeahbaa
open Go.RowKit

theorem count_any (n s : Int) (hn : -9223372036854775808 ≤ n) (hn1 : n ≤ 9223372036854775807) (hs : -9223372036854775808 ≤ s) (hs1 : s ≤ 9223372036854775807) (w : World) :
    Calls Try.prog 19 #[.int .i64 n, .int .i64 s] w fun e w' => e = .returned (.int .i64 (cntB n s)) ∧ w = w' := by
  by_cases h : 1 ≤ n ∧ 1 ≤ s
  · have H := Lib.hid (cntB_in n s h.1 h.2)
    have h1 := h.1
    have h2 := h.2
    have q1 := Int.ediv_nonneg (show 0 ≤ n - 1 by omega) (show 0 ≤ s by omega)
    have q2 := Int.ediv_le_self s (show 0 ≤ n - 1 by omega)
    clear h
    go_enter Try.func19, Try.ntmps19
    go_wp2
    go_ret
    exact ⟨ret_i H.out.symm, rfl⟩
  · have H := Lib.hid (cntB_out n s (by omega))
    have h' : n < 1 ∨ ¬ n < 1 ∧ s < 1 := by omega
    clear h
    rcases h' with h | h
    all_goals
      go_enter Try.func19, Try.ntmps19
      go_wp2
      go_ret
      exact ⟨ret_i H.out.symm, rfl⟩


end Go.Proofs.Ytgkiloidjeahbaa
