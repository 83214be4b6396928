/- Layer 7: the chapter's example. -/
import Derived.Test.YtinflmjombcolaaMatK
namespace Go.Proofs.Ytinflmjombcolaa
open Go.RowKit
set_option linter.unusedVariables false
theorem mul_ex : mulL 2 2 [1, 2, 3, 4] [1, 1] 0 = [3, 7] := by kernel_rfl
set_option maxHeartbeats 1000000 in
theorem alive7_any (w : World) :
    Calls Try.prog 9 #[] w fun e w' => e = .returned (.bool true) ∧ Below w.heap.size w w' := by
  have hV := IntsAt.fresh (q := .i64) (w := w) (cs := #[.int .i64 1, .int .i64 2, .int .i64 3, .int .i64 4]) (e := 2) (zs := [1, 2, 3, 4]) rfl
  have b1 := (Below.refl w.heap.size w).alloc (Nat.le_refl _) (.cells #[.int .i64 1, .int .i64 2, .int .i64 3, .int .i64 4] 2)
  have hs : (w.alloc (.cells #[.int .i64 1, .int .i64 2, .int .i64 3, .int .i64 4] 2)).heap.size = w.heap.size + 1 := by simp
  have hU := IntsAt.fresh (q := .i64) (w := w.alloc (.cells #[.int .i64 1, .int .i64 2, .int .i64 3, .int .i64 4] 2)) (cs := #[.int .i64 1, .int .i64 1]) (e := 2) (zs := [1, 1]) rfl
  have b2 := (Below.refl (w.alloc (.cells #[.int .i64 1, .int .i64 2, .int .i64 3, .int .i64 4] 2)).heap.size (w.alloc (.cells #[.int .i64 1, .int .i64 2, .int .i64 3, .int .i64 4] 2))).alloc (Nat.le_refl _) (.cells #[.int .i64 1, .int .i64 1] 2)
  have HV := Lib.hid (hV.later b2)
  rw [hs] at hU
  have HU := Lib.hid hU
  have B2 := Lib.hid (below_step b1 b2)
  clear hV hU hs b1 b2
  go_enter Try.func9, Try.ntmps9
  go_wp2_with fail
  refine (mul_yes 2 2 _ _ [1, 2, 3, 4] [1, 1] 0 (by decide) (by intro z h; simp only [List.mem_cons, List.not_mem_nil, or_false] at h; unfold Word; omega) (by intro z h; simp only [List.mem_cons, List.not_mem_nil, or_false] at h; unfold Word; omega) (by decide) _ (.inr HV.out) HU.out).mono ?_
  rintro e w3 ⟨v, rfl, o3, b3⟩
  rw [mul_ex] at o3
  obtain ⟨g, c, rfl, g1, g2⟩ := own_some o3 (by decide)
  have c0 := o3.cellAt 0 (by decide)
  have c1 := o3.cellAt 1 (by decide)
  have B3 := Lib.hid (below_step B2.out b3)
  simp only [List.map_cons, List.map_nil, List.getElem?_cons_zero, List.getElem?_cons_succ] at c0 c1
  clear o3 b3 g1
  go_wp2_with fail
  go_ret
  exact ⟨rfl, B3.out⟩
end Go.Proofs.Ytinflmjombcolaa
