/- Whether two vectors are the same; whether vectors are few; copies; adding in place. -/
import Derived.Test.YtcnabebcckbfkaaDoorVecE
import Derived.LoopN
import Derived.OwnWalk
namespace Go.Proofs.YtcnabebcckbfkaaDoor
open Go.RowKit
set_option linter.unusedVariables false
theorem refSame_w (v u : Value) (zs ys : List Int) (hm : zs.length ≤ 140737488351232) (hm2 : ys.length ≤ 140737488351232) (w : World) (hv : IntsW .i64 w.heap.size w v zs) (hu : IntsW .i64 w.heap.size w u ys) :
    Calls Tryd.prog 37 #[v, u] w fun e w' => e = .returned (.bool (sameL zs ys)) ∧ Below w.heap.size w w' := by
  have HD := Lib.hid (refDiffer_w v u zs ys hm hm2 w hv hu)
  obtain ⟨av, cv, rfl⟩ := hv.value
  obtain ⟨au, cu, rfl⟩ := hu.value
  clear hv hu
  go_enter Tryd.func37, Tryd.ntmps37
  go_wp2_with fail
  refine HD.out.mono ?_
  rintro e w' ⟨rfl, hb⟩
  have HS : Hid (sameL zs ys = decide (differ 0 zs ys < 0)) := Lib.hid rfl
  generalize differ 0 zs ys = d at *
  go_wp2_with fail
  go_ret
  exact ⟨ret_b (by rw [HS.out]), hb⟩
theorem refSame_any (v u : Value) (zs ys : List Int) (hm : zs.length ≤ 140737488351232) (hm2 : ys.length ≤ 140737488351232) (w : World) (hv : IntsAt .i64 w.heap.size w v zs) (hu : IntsAt .i64 w.heap.size w u ys) :
    Calls Tryd.prog 37 #[v, u] w fun e w' => e = .returned (.bool (sameL zs ys)) ∧ Below w.heap.size w w' := refSame_w v u zs ys hm hm2 w (.inr hv) (.inr hu)
end Go.Proofs.YtcnabebcckbfkaaDoor
