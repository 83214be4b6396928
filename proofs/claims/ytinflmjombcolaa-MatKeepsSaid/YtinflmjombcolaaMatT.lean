/- Layer 7: the transposed matrix and the outer product as far as some rows go, as lists. -/
import Derived.Test.YtinflmjombcolaaMatP
namespace Go.Proofs.Ytinflmjombcolaa
set_option linter.unusedVariables false
/-- the transposed matrix, where the rows of a list and the first elements of another row are in place -/
def turnQ {R : Nat} (C : Nat) (zs : List Int) (pre : List (Fin R)) (r k : Nat) : List Int :=
  (List.range (C * R)).map fun i => if i % R ∈ pre.map Fin.val ∨ (i % R = r ∧ i / R < k) then zs[(i % R) * C + i / R]?.getD 0 else 0
def turnP {R : Nat} (C : Nat) (zs : List Int) (pre : List (Fin R)) : List Int :=
  (List.range (C * R)).map fun i => if i % R ∈ pre.map Fin.val then zs[(i % R) * C + i / R]?.getD 0 else 0
theorem turnQ_length {R : Nat} (C : Nat) (zs : List Int) (pre : List (Fin R)) (r k : Nat) : (turnQ C zs pre r k).length = C * R := by simp [turnQ]
theorem turnP_length {R : Nat} (C : Nat) (zs : List Int) (pre : List (Fin R)) : (turnP C zs pre).length = C * R := by simp [turnP]
theorem turnP_nil {R : Nat} (C : Nat) (zs : List Int) : turnP (R := R) C zs [] = List.replicate (C * R) 0 := by
  apply List.ext_getElem <;> simp [turnP]
theorem turnQ_zero {R : Nat} (C : Nat) (zs : List Int) (pre : List (Fin R)) (r : Nat) : turnQ C zs pre r 0 = turnP C zs pre := by
  unfold turnQ turnP
  apply List.map_congr_left
  intro i _
  by_cases h : i % R ∈ pre.map Fin.val
  · rw [if_pos (Or.inl h), if_pos h]
  · rw [if_neg (by rintro (h' | ⟨_, h'⟩); exact h h'; exact Nat.not_lt_zero _ h'), if_neg h]
theorem turnQ_all {R : Nat} (C : Nat) (zs : List Int) (pre : List (Fin R)) (x : Fin R) : turnQ C zs pre x.val C = turnP C zs (pre ++ [x]) := by
  unfold turnQ turnP
  apply List.map_congr_left
  intro i hi
  have hi' := div_lt_of (List.mem_range.1 hi)
  simp only [List.map_append, List.map_cons, List.map_nil, List.mem_append, List.mem_cons, List.not_mem_nil, or_false]
  by_cases h : i % R ∈ pre.map Fin.val
  · rw [if_pos (Or.inl h), if_pos (Or.inl h)]
  · by_cases e : i % R = x.val
    · rw [if_pos (Or.inr ⟨e, hi'⟩), if_pos (Or.inr e)]
    · rw [if_neg (by rintro (h' | ⟨h', _⟩); exact h h'; exact e h'), if_neg (by rintro (h' | h'); exact h h'; exact e h')]
theorem turnQ_set {R : Nat} (C : Nat) (zs : List Int) (pre : List (Fin R)) (r k : Nat) (hr : r < R) (hk : k < C) : (turnQ C zs pre r k).set (k * R + r) (zs[r * C + k]?.getD 0) = turnQ C zs pre r (k + 1) := by
  apply List.ext_getElem
  · rw [List.length_set, turnQ_length, turnQ_length]
  · intro i h1 h2
    rw [List.getElem_set]
    rw [turnQ_length] at h2
    by_cases e : k * R + r = i
    · rw [if_pos e]
      subst e
      simp only [turnQ, List.getElem_map, List.getElem_range]
      rw [idx_mod k R r hr, idx_div k R r hr, if_pos (Or.inr ⟨rfl, by omega⟩)]
    · rw [if_neg e]
      simp only [turnQ, List.getElem_map, List.getElem_range]
      have hd := Nat.div_add_mod i R
      have hne : ¬ (i % R = r ∧ i / R = k) := by
        rintro ⟨a, b⟩
        rw [a, b, Nat.mul_comm] at hd
        exact e hd
      by_cases h : i % R ∈ pre.map Fin.val
      · rw [if_pos (Or.inl h), if_pos (Or.inl h)]
      · by_cases q : i % R = r ∧ i / R < k
        · rw [if_pos (Or.inr q), if_pos (Or.inr ⟨q.1, by omega⟩)]
        · rw [if_neg (by rintro (h' | h'); exact h h'; exact q h'), if_neg]
          rintro (h' | ⟨a, b⟩)
          · exact h h'
          · by_cases f : i / R = k
            · exact hne ⟨a, f⟩
            · exact q ⟨a, by omega⟩
theorem turnP_all (R C : Nat) (zs : List Int) : turnP C zs (List.finRange R) = turnL R C zs := by
  unfold turnP turnL
  apply List.map_congr_left
  intro i hi
  have hi' := mod_lt_of (List.mem_range.1 hi)
  rw [if_pos]
  simp only [List.mem_map, List.mem_finRange, true_and]
  exact ⟨⟨i % R, hi'⟩, rfl⟩
/-- the outer product, as far as some rows go -/
def outP {R : Nat} (ys xs : List Int) (q : Int) (pre : List (Fin R)) : List Int :=
  (List.range (R * xs.length)).map fun i => if i / xs.length ∈ pre.map Fin.val then mulq (xs[i % xs.length]?.getD 0) (ys[i / xs.length]?.getD 0) q else 0
def outL (ys xs : List Int) (q : Int) : List Int :=
  (List.range (ys.length * xs.length)).map fun i => mulq (xs[i % xs.length]?.getD 0) (ys[i / xs.length]?.getD 0) q
theorem outP_length {R : Nat} (ys xs : List Int) (q : Int) (pre : List (Fin R)) : (outP ys xs q pre).length = R * xs.length := by simp [outP]
theorem outL_length (ys xs : List Int) (q : Int) : (outL ys xs q).length = ys.length * xs.length := by simp [outL]
theorem outP_nil {R : Nat} (ys xs : List Int) (q : Int) : outP (R := R) ys xs q [] = List.replicate (R * xs.length) 0 := by
  apply List.ext_getElem <;> simp [outP]
theorem outP_all (ys xs : List Int) (q : Int) : outP ys xs q (List.finRange ys.length) = outL ys xs q := by
  unfold outP outL
  apply List.map_congr_left
  intro i hi
  have hi' := div_lt_of (List.mem_range.1 hi)
  rw [if_pos]
  simp only [List.mem_map, List.mem_finRange, true_and]
  exact ⟨⟨_, hi'⟩, rfl⟩
theorem outL_get (ys xs : List Int) (q : Int) (i : Nat) (h : i < ys.length * xs.length) : (outL ys xs q)[i]?.getD 0 = mulq (xs[i % xs.length]?.getD 0) (ys[i / xs.length]?.getD 0) q := by
  unfold outL
  rw [List.getElem?_map, List.getElem?_range h]
  rfl
theorem turn_out (ys xs : List Int) (q : Int) : turnL ys.length xs.length (outL ys xs q) = outL xs ys q := by
  apply List.ext_getElem
  · rw [turnL_length, outL_length]
  · intro i h1 h2
    rw [turnL_length] at h1
    have a := div_lt_of h1
    have b := mod_lt_of h1
    have g := turnL_get ys.length xs.length (outL ys xs q) i h1
    have hx := idx_lt (c := i % ys.length) (C := ys.length) (R := xs.length) (r := i / ys.length) b a
    rw [outL_get ys xs q _ hx, idx_mod _ _ _ a, idx_div _ _ _ a, mulq_comm, ← outL_get xs ys q i h1, List.getElem?_eq_getElem (by rw [turnL_length]; exact h1), List.getElem?_eq_getElem h2] at g
    exact g
/-- a part of a list is replaced -/
def patch (zs : List Int) (at_ : Nat) (ys : List Int) : List Int := zs.take at_ ++ ys ++ zs.drop (at_ + ys.length)
theorem outP_patch {R : Nat} (ys xs : List Int) (q : Int) (pre : List (Fin R)) (x : Fin R) : patch (outP ys xs q pre) (x.val * xs.length) (scaleL xs (ys[x.val]?.getD 0) q) = outP ys xs q (pre ++ [x]) := by
  have hlt : (x.val + 1) * xs.length ≤ R * xs.length := Nat.mul_le_mul_right _ x.isLt
  rw [Nat.succ_mul] at hlt
  have hsl : (scaleL xs (ys[x.val]?.getD 0) q).length = xs.length := by simp [scaleL]
  unfold patch
  apply List.ext_getElem
  · simp only [List.length_append, List.length_take, List.length_drop, outP_length, hsl]
    omega
  · intro i h1 h2
    rw [outP_length] at h2
    have hd := Nat.div_add_mod i xs.length
    have hm := mod_lt_of (C := R) (R := xs.length) h2
    have hR : (outP ys xs q (pre ++ [x]))[i]'(by rw [outP_length]; exact h2) = if i / xs.length ∈ pre.map Fin.val ∨ i / xs.length = x.val then mulq (xs[i % xs.length]?.getD 0) (ys[i / xs.length]?.getD 0) q else 0 := by
      simp [outP]
    rw [hR]
    have hP : (outP ys xs q pre)[i]'(by rw [outP_length]; exact h2) = if i / xs.length ∈ pre.map Fin.val then mulq (xs[i % xs.length]?.getD 0) (ys[i / xs.length]?.getD 0) q else 0 := by
      simp [outP]
    by_cases c1 : i < x.val * xs.length
    · rw [List.getElem_append_left (by simp only [List.length_append, List.length_take, outP_length]; omega), List.getElem_append_left (by simp only [List.length_take, outP_length]; omega), List.getElem_take, hP]
      have : i / xs.length ≠ x.val := by
        intro e
        rw [e, Nat.mul_comm] at hd
        omega
      by_cases m : i / xs.length ∈ pre.map Fin.val
      · rw [if_pos m, if_pos (Or.inl m)]
      · rw [if_neg m, if_neg (by rintro (h | h); exact m h; exact this h)]
    · by_cases c2 : i < x.val * xs.length + xs.length
      · have hj : i = x.val * xs.length + (i - x.val * xs.length) := by omega
        have hq : i / xs.length = x.val := by rw [hj]; exact idx_div _ _ _ (by omega)
        have hr : i % xs.length = i - x.val * xs.length := by rw [hj]; rw [idx_mod _ _ _ (by omega)]; omega
        rw [List.getElem_append_left (by simp only [List.length_append, List.length_take, outP_length, hsl]; omega), List.getElem_append_right (by simp only [List.length_take, outP_length]; omega), if_pos (Or.inr hq), hq, hr]
        simp only [scaleL, List.getElem_map, List.length_take, outP_length]
        have e3 : ∀ (a b : Nat) (ha : a < xs.length) (hb : b < xs.length), a = b → xs[a] = xs[b] := by
          intro a b ha hb e
          subst e
          rfl
        rw [List.getElem?_eq_getElem (show i - x.val * xs.length < xs.length by omega), Option.getD_some]
        exact congrArg (fun z => mulq z (ys[x.val]?.getD 0) q) (e3 _ _ _ _ (by rw [Nat.min_eq_left (by omega)]))
      · rw [List.getElem_append_right (by simp only [List.length_append, List.length_take, outP_length, hsl]; omega), List.getElem_drop]
        simp only [List.length_append, List.length_take, outP_length, hsl]
        have e1 : x.val * xs.length + xs.length + (i - (min (x.val * xs.length) (R * xs.length) + xs.length)) = i := by
          rw [Nat.min_eq_left (by omega)]; omega
        have e2 : i / xs.length ≠ x.val := by
          intro e
          rw [e, Nat.mul_comm] at hd
          omega
        have hP2 : (outP ys xs q pre)[x.val * xs.length + xs.length + (i - (min (x.val * xs.length) (R * xs.length) + xs.length))]'(by rw [outP_length, e1]; exact h2) = (outP ys xs q pre)[i]'(by rw [outP_length]; exact h2) := by
          congr 1
        rw [hP2, hP]
        by_cases m : i / xs.length ∈ pre.map Fin.val
        · rw [if_pos m, if_pos (Or.inl m)]
        · rw [if_neg m, if_neg (by rintro (h | h); exact m h; exact e2 h)]
end Go.Proofs.Ytinflmjombcolaa
