/- The walks of VecHashes and VecChanges. -/
import Derived.Test.YtmffgbmjomaehaaVecL
namespace Go.Proofs.Ytmffgbmjomaehaa
open Go.RowKit
set_option linter.unusedVariables false
theorem few_one (v : Value) (zs : List Int) (hm : zs.length ≤ maxLen) (w : World) (hv : IntsAt .i64 w.heap.size w v zs) :
    Calls Try.prog 18 #[.slice (some ⟨w.heap.size, 0, none⟩) 1 1] (w.alloc (.cells #[v] 24)) fun e w' => e = .returned (.bool (fewB [zs])) ∧ w.alloc (.cells #[v] 24) = w' :=
  few_any _ [zs] (by simp [maxLen]) (by simpa using hm) _ _ (rows_one (e := 24) (.inr hv))
theorem few_two (v u : Value) (zs ys : List Int) (hm : zs.length ≤ maxLen) (hm2 : ys.length ≤ maxLen) (w : World) (hv : IntsAt .i64 w.heap.size w v zs) (hu : IntsAt .i64 w.heap.size w u ys) :
    Calls Try.prog 18 #[.slice (some ⟨w.heap.size, 0, none⟩) 2 2] (w.alloc (.cells #[v, u] 24)) fun e w' => e = .returned (.bool (fewB [zs, ys])) ∧ w.alloc (.cells #[v, u] 24) = w' :=
  few_any _ [zs, ys] (by simp [maxLen]) (by simpa using ⟨hm, hm2⟩) _ _ (rows_two (e := 24) (.inr hv) (.inr hu))
end Go.Proofs.Ytmffgbmjomaehaa
