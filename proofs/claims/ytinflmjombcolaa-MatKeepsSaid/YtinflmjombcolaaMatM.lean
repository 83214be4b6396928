/- Layer 7: products of matrices, as lists. -/
import Derived.Test.YtinflmjombcolaaVecM
import Derived.Test.YtinflmjombcolaaVecP
namespace Go.Proofs.Ytinflmjombcolaa
set_option linter.unusedVariables false
def rowL (zs : List Int) (C r : Nat) : List Int := (zs.drop (r * C)).take C
theorem rowL_length {zs : List Int} {R C r : Nat} (h : zs.length = R * C) (hr : r < R) : (rowL zs C r).length = C := by
  unfold rowL
  have h1 : (r + 1) * C ≤ R * C := Nat.mul_le_mul_right C (by omega)
  rw [Nat.succ_mul] at h1
  rw [List.length_take, List.length_drop]
  omega
theorem rowL_get {zs : List Int} {R C r j : Nat} (h : zs.length = R * C) (hr : r < R) (hj : j < C) : (rowL zs C r)[j]?.getD 0 = zs[r * C + j]?.getD 0 := by
  unfold rowL
  rw [List.getElem?_take, if_pos hj, List.getElem?_drop]
theorem rowL_mem {zs : List Int} {C r : Nat} {z : Int} (h : z ∈ rowL zs C r) : z ∈ zs := List.mem_of_mem_drop (List.mem_of_mem_take h)
/-- a list of numbers, filled in at the indices of a list -/
def fillP (R : Nat) (f : Nat → Int) (pre : List (Fin R)) : List Int := (List.range R).map fun r => if r ∈ pre.map Fin.val then f r else 0
theorem fillP_length (R : Nat) (f : Nat → Int) (pre : List (Fin R)) : (fillP R f pre).length = R := by simp [fillP]
theorem fillP_nil (R : Nat) (f : Nat → Int) : fillP R f [] = List.replicate R 0 := by
  apply List.ext_getElem <;> simp [fillP]
theorem fillP_snoc (R : Nat) (f : Nat → Int) (pre : List (Fin R)) (x : Fin R) : fillP R f (pre ++ [x]) = (fillP R f pre).set x.val (f x.val) := by
  apply List.ext_getElem
  · simp [fillP]
  · intro i h1 h2
    rw [List.getElem_set]
    simp only [fillP, List.getElem_map, List.getElem_range, List.map_append, List.map_cons, List.map_nil, List.mem_append, List.mem_cons, List.not_mem_nil, or_false]
    by_cases e : x.val = i
    · subst e; simp
    · rw [if_neg e]
      by_cases m : i ∈ List.map Fin.val pre
      · simp [m]
      · rw [if_neg m, if_neg]
        simp only [m, false_or]
        omega
theorem fillP_all (R : Nat) (f : Nat → Int) : fillP R f (List.finRange R) = (List.range R).map f := by
  apply List.ext_getElem
  · simp [fillP]
  · intro i h1 h2
    simp only [fillP, List.getElem_map, List.getElem_range]
    rw [if_pos]
    simp only [List.mem_map, List.mem_finRange, true_and]
    exact ⟨⟨i, by simpa using h2⟩, rfl⟩
/-- the product with a column -/
def mulL (R C : Nat) (zs xs : List Int) (q : Int) : List Int := (List.range R).map fun r => dotV (rowL zs C r) xs q
theorem mulL_length (R C : Nat) (zs xs : List Int) (q : Int) : (mulL R C zs xs q).length = R := by simp [mulL]
end Go.Proofs.Ytinflmjombcolaa
