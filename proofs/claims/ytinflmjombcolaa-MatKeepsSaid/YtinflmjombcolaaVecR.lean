/- The reference's sum of vectors. -/
import Derived.Test.YtinflmjombcolaaVecS
import Derived.RegionTactic
import Derived.ChangeAlike
namespace Go.Proofs.Ytinflmjombcolaa
open Go.RowKit
set_option linter.unusedVariables false
def zeros (n : Nat) : List Int := List.replicate n 0
theorem addL_zeros (z : List Int) (h : ∀ x ∈ z, Word x) : addL (zeros z.length) z = z := by
  unfold addL zeros
  induction z with
  | nil => rfl
  | cons x xs ih =>
    simp only [List.length_cons, List.replicate_succ, List.zipWith_cons_cons]
    rw [ih (fun y hy => h y (by simp [hy]))]
    have := h x (by simp)
    unfold Word at this
    congr 1
    unfold wrap64
    omega
theorem elem64 : Elem Try.prog 22 2 (.int .i64 0) 1 8 := ⟨Try.underlying22, info_parts (by kernel_rfl), rfl, by decide⟩
theorem made_zeros {w : World} {n : Nat} (hm : n ≤ maxLen) : (w.alloc (.cells (madeCells #[.int .i64 0] n) 2)).ownsRow w.heap.size 2 1 (.slice (some ⟨w.heap.size, 0, none⟩) n n) n ((zeros n).map (Value.int .i64)) := by
  have h := owns_made (w := w) (base := w.heap.size) (e := 2) (size := 1) (n := n) (u := .int .i64 0) (z := #[.int .i64 0]) rfl (by decide) (Nat.le_refl _) hm
  rw [Nat.mul_one] at h
  unfold zeros
  rw [List.map_replicate]
  exact h
theorem foldl_zeros_len (n : Nat) (l : List (List Int)) (h : ∀ y ∈ l, y.length = n) : (l.foldl addL (zeros n)).length = n := by
  have := foldl_addL_length (zeros n) l (by simp only [alike, List.all_eq_true, decide_eq_true_eq]; intro y hy; rw [h y hy]; simp [zeros])
  simpa [zeros] using this
end Go.Proofs.Ytinflmjombcolaa
