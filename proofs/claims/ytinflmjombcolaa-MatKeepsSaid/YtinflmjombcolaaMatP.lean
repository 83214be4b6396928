/- Layer 7: the transposed matrix, as lists. -/
import Derived.Test.YtinflmjombcolaaMatM
import Derived.Test.YtinflmjombcolaaVecP
namespace Go.Proofs.Ytinflmjombcolaa
set_option linter.unusedVariables false
theorem idx_mod (c R r : Nat) (h : r < R) : (c * R + r) % R = r := by rw [Nat.mul_comm, Nat.mul_add_mod, Nat.mod_eq_of_lt h]
theorem idx_div (c R r : Nat) (h : r < R) : (c * R + r) / R = c := by
  rw [Nat.mul_comm, Nat.mul_add_div (by omega), Nat.div_eq_of_lt h, Nat.add_zero]
theorem idx_lt {c C R r : Nat} (hc : c < C) (hr : r < R) : c * R + r < C * R := by
  have h1 : (c + 1) * R ≤ C * R := Nat.mul_le_mul_right R (by omega)
  rw [Nat.succ_mul] at h1
  omega
theorem div_lt_of {i C R : Nat} (h : i < C * R) : i / R < C := by
  refine Nat.div_lt_of_lt_mul ?_
  rw [Nat.mul_comm]
  exact h
theorem mod_lt_of {i C R : Nat} (h : i < C * R) : i % R < R := by
  refine Nat.mod_lt _ ?_
  apply Nat.pos_of_ne_zero
  intro e
  subst e
  simp at h
def turnL (R C : Nat) (zs : List Int) : List Int := (List.range (C * R)).map fun i => zs[(i % R) * C + i / R]?.getD 0
theorem turnL_length (R C : Nat) (zs : List Int) : (turnL R C zs).length = C * R := by simp [turnL]
theorem turnL_get (R C : Nat) (zs : List Int) (i : Nat) (h : i < C * R) : (turnL R C zs)[i]?.getD 0 = zs[(i % R) * C + i / R]?.getD 0 := by
  unfold turnL
  rw [List.getElem?_map, List.getElem?_range h]
  rfl
theorem turnL_at (R C : Nat) (zs : List Int) (r c : Nat) (hr : r < R) (hc : c < C) : (turnL R C zs)[c * R + r]?.getD 0 = zs[r * C + c]?.getD 0 := by
  rw [turnL_get R C zs _ (idx_lt hc hr), idx_mod c R r hr, idx_div c R r hr]
theorem turnL_row (R C : Nat) (zs : List Int) (c : Nat) (hc : c < C) : rowL (turnL R C zs) R c = (List.range R).map fun r => zs[r * C + c]?.getD 0 := by
  have hl := rowL_length (zs := turnL R C zs) (R := C) (C := R) (r := c) (turnL_length R C zs) hc
  apply List.ext_getElem
  · rw [hl]; simp
  · intro j h1 h2
    have hj : j < R := by omega
    have := rowL_get (zs := turnL R C zs) (R := C) (C := R) (r := c) (j := j) (turnL_length R C zs) hc hj
    rw [turnL_at R C zs j c hj hc, List.getElem?_eq_getElem h1] at this
    simpa using this
theorem turn_turn (R C : Nat) (zs : List Int) (h : zs.length = R * C) : turnL C R (turnL R C zs) = zs := by
  apply List.ext_getElem
  · rw [turnL_length, h]
  · intro i h1 h2
    have hi : i < R * C := by omega
    have g := turnL_get C R (turnL R C zs) i hi
    have a := div_lt_of hi
    have b := mod_lt_of hi
    rw [turnL_at R C zs (i / C) (i % C) a b] at g
    rw [List.getElem?_eq_getElem h1] at g
    rw [show i / C * C + i % C = i by rw [Nat.mul_comm]; exact Nat.div_add_mod i C, List.getElem?_eq_getElem h2] at g
    simpa using g
theorem turnL_word (R C : Nat) (zs : List Int) (hz : ∀ z ∈ zs, Word z) : ∀ z ∈ turnL R C zs, Word z := by
  intro z h
  unfold turnL at h
  obtain ⟨i, _, rfl⟩ := List.mem_map.1 h
  rcases Nat.lt_or_ge (i % R * C + i / R) zs.length with g | g
  · rw [List.getElem?_eq_getElem g]
    exact hz _ (List.getElem_mem g)
  · rw [List.getElem?_eq_none g]
    show Word 0
    unfold Word
    omega
/-- the product of the transposed matrix with a column -/
def backL (R C : Nat) (zs ys : List Int) (q : Int) : List Int := mulL C R (turnL R C zs) ys q
theorem backL_length (R C : Nat) (zs ys : List Int) (q : Int) : (backL R C zs ys q).length = C := mulL_length _ _ _ _ _
def backP {R : Nat} (C : Nat) (zs ys : List Int) (q : Int) (pre : List (Fin R)) : List Int :=
  (List.range C).map fun c => sumw (pre.map fun r => mulq (zs[r.val * C + c]?.getD 0) (ys[r.val]?.getD 0) q)
theorem backP_length {R : Nat} (C : Nat) (zs ys : List Int) (q : Int) (pre : List (Fin R)) : (backP C zs ys q pre).length = C := by simp [backP]
theorem backP_nil {R : Nat} (C : Nat) (zs ys : List Int) (q : Int) : backP (R := R) C zs ys q [] = List.replicate C 0 := by
  apply List.ext_getElem
  · simp [backP]
  · intro i h1 h2
    simp only [backP, List.getElem_map, List.map_nil, List.getElem_replicate]
    exact sumw_nil
theorem backP_snoc {R : Nat} (C : Nat) (zs ys : List Int) (q : Int) (hl : zs.length = R * C) (pre : List (Fin R)) (x : Fin R) :
    backP C zs ys q (pre ++ [x]) = addL (backP C zs ys q pre) (scaleL (rowL zs C x.val) (ys[x.val]?.getD 0) q) := by
  have hr := rowL_length hl x.isLt
  apply List.ext_getElem
  · simp [backP, addL, scaleL, hr]
  · intro i h1 h2
    have hi : i < C := by simpa [backP] using h1
    have hg := rowL_get hl x.isLt hi
    rw [List.getElem?_eq_getElem (by omega)] at hg
    simp only [Option.getD_some] at hg
    simp only [backP, addL, scaleL, List.getElem_map, List.getElem_range, List.map_append, List.map_cons, List.map_nil, List.getElem_zipWith, sumw_snoc]
    rw [hg]
theorem backP_all (R C : Nat) (zs ys : List Int) (q : Int) (hy : ys.length = R) : backP C zs ys q (List.finRange R) = backL R C zs ys q := by
  apply List.ext_getElem
  · rw [backP_length, backL_length]
  · intro c h1 h2
    have hc : c < C := by rw [backP_length] at h1; exact h1
    simp only [backP, backL, mulL, List.getElem_map, List.getElem_range]
    rw [turnL_row R C zs c hc]
    unfold dotV
    rw [if_pos (by simp [hy])]
    congr 1
    apply List.ext_getElem
    · simp [prods, hy]
    · intro r g1 g2
      have hr : r < R := by simpa using g1
      simp only [prods, List.getElem_map, List.getElem_finRange, List.getElem_zipWith, List.getElem_range, Fin.val_cast]
      rw [List.getElem?_eq_getElem (show r < ys.length by omega)]
      rfl
end Go.Proofs.Ytinflmjombcolaa
