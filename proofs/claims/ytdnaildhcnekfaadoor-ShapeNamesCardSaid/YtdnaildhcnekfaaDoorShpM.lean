/- Layer 8: sizes of layers as lists; nothing here speaks of a program. -/
import Derived.Test.YtdnaildhcnekfaaDoorGen
namespace Go.Proofs.YtdnaildhcnekfaaDoor
open Go.RowKit
set_option linter.unusedVariables false
def goodB (n : Int) : Bool := decide (1 ≤ n) && decide (n ≤ 1048576)
/-- the parameters of the first k links -/
def stTo (ss : List Int) : Nat → Int
  | 0 => 0
  | k + 1 => stTo ss k + (ss[k]?.getD 0 + 1) * ss[k + 1]?.getD 0
def stL (ss : List Int) (k : Nat) : List Int := (List.range (k + 1)).map (stTo ss)
theorem stL_length (ss : List Int) (k : Nat) : (stL ss k).length = k + 1 := by simp [stL]
theorem stL_succ (ss : List Int) (k : Nat) : stL ss (k + 1) = stL ss k ++ [stTo ss (k + 1)] := by unfold stL; rw [List.range_succ, List.map_append]; rfl
theorem stL_at (ss : List Int) (k j : Nat) (h : j ≤ k) : (stL ss k)[j]? = some (stTo ss j) := by
  unfold stL
  rw [List.getElem?_map, List.getElem?_range (by omega)]
  rfl
/-- all of the first k are good -/
def goodTo (ss : List Int) (k : Nat) : Prop := ∀ j, j < k → goodB (ss[j]?.getD 0) = true
theorem goodTo.succ {ss : List Int} {k : Nat} (h : goodTo ss k) (hk : goodB (ss[k]?.getD 0) = true) : goodTo ss (k + 1) := fun j hj => by
  rcases Nat.lt_succ_iff_lt_or_eq.1 hj with h1 | rfl
  · exact h j h1
  · exact hk
theorem goodB_iff {n : Int} : goodB n = true ↔ 1 ≤ n ∧ n ≤ 1048576 := by unfold goodB; rw [Bool.and_eq_true, decide_eq_true_eq, decide_eq_true_eq]
theorem st_step {ss : List Int} {k : Nat} (h : goodTo ss ss.length) (hk : k + 1 < ss.length) : 0 ≤ (ss[k]?.getD 0 + 1) * ss[k + 1]?.getD 0 ∧ (ss[k]?.getD 0 + 1) * ss[k + 1]?.getD 0 ≤ 1048577 * 1048576 := by
  have h1 := goodB_iff.1 (h k (by omega))
  have h2 := goodB_iff.1 (h (k + 1) hk)
  exact ⟨Int.mul_nonneg (by omega) (by omega), Int.mul_le_mul (by omega) h2.2 (by omega) (by omega)⟩
theorem st_range {ss : List Int} {k : Nat} (h : goodTo ss ss.length) (hk : k < ss.length ∨ k = 0) : 0 ≤ stTo ss k ∧ stTo ss k ≤ k * (1048577 * 1048576) := by
  induction k with
  | zero => exact ⟨Int.le_refl _, by simp [stTo]⟩
  | succ k ih =>
    have h1 := ih (by omega)
    have h2 := st_step (k := k) h (by omega)
    have e : stTo ss (k + 1) = stTo ss k + (ss[k]?.getD 0 + 1) * ss[k + 1]?.getD 0 := rfl
    rw [e]
    generalize (ss[k]?.getD 0 + 1) * ss[k + 1]?.getD 0 = x at *
    omega
theorem st_mono {ss : List Int} {k d : Nat} (h : goodTo ss ss.length) (hk : k + d < ss.length ∨ d = 0) : stTo ss k ≤ stTo ss (k + d) := by
  induction d with
  | zero => exact Int.le_refl _
  | succ d ih =>
    have h1 := ih (by omega)
    have h2 := st_step (k := k + d) h (by omega)
    have e : stTo ss (k + (d + 1)) = stTo ss (k + d) + (ss[k + d]?.getD 0 + 1) * ss[k + d + 1]?.getD 0 := rfl
    rw [e]
    generalize (ss[k + d]?.getD 0 + 1) * ss[k + d + 1]?.getD 0 = x at *
    omega
/-- the code of a list of sizes -/
def codeH (ss : List Int) : Int :=
  if ss.length < 2 ∨ 16 < ss.length then 5 else if ss.all goodB then (if 1048576 < stTo ss (ss.length - 1) then 4 else 0) else 5
theorem all_good {ss : List Int} : ss.all goodB = true ↔ goodTo ss ss.length := by
  rw [List.all_eq_true]
  constructor
  · intro h j hj
    rw [List.getElem?_eq_getElem hj, Option.getD_some]
    exact h _ (List.getElem_mem hj)
  · intro h x hx
    obtain ⟨j, hj, rfl⟩ := List.getElem_of_mem hx
    have := h j hj
    rwa [List.getElem?_eq_getElem hj, Option.getD_some] at this
theorem codeH_len {ss : List Int} (h : ss.length < 2 ∨ 16 < ss.length) : codeH ss = 5 := if_pos h
theorem codeH_bad {ss : List Int} {k : Nat} (hk : k < ss.length) (h : goodB (ss[k]?.getD 0) = false) : codeH ss = 5 := by
  unfold codeH
  split
  · rfl
  · rw [if_neg]
    intro ha
    have := all_good.1 ha k hk
    rw [h] at this
    cases this
theorem codeH_long {ss : List Int} (h1 : ¬ (ss.length < 2 ∨ 16 < ss.length)) (h2 : goodTo ss ss.length) (h3 : 1048576 < stTo ss (ss.length - 1)) : codeH ss = 4 := by
  unfold codeH
  rw [if_neg h1, if_pos (all_good.2 h2), if_pos h3]
theorem codeH_ok {ss : List Int} (h1 : ¬ (ss.length < 2 ∨ 16 < ss.length)) (h2 : goodTo ss ss.length) (h3 : ¬ 1048576 < stTo ss (ss.length - 1)) : codeH ss = 0 := by
  unfold codeH
  rw [if_neg h1, if_pos (all_good.2 h2), if_neg h3]
/-- what a right list is -/
structure RightH (ss : List Int) : Prop where
  l2 : 2 ≤ ss.length
  l16 : ss.length ≤ 16
  good : goodTo ss ss.length
  cnt : stTo ss (ss.length - 1) ≤ 1048576
theorem codeH_zero {ss : List Int} : codeH ss = 0 ↔ RightH ss := by
  constructor
  · intro h
    unfold codeH at h
    split at h
    · cases h
    · split at h
      · next h1 h2 =>
        split at h
        · cases h
        · exact ⟨by omega, by omega, all_good.1 h2, by omega⟩
      · cases h
  · intro h
    exact codeH_ok (by have := h.l2; have := h.l16; omega) h.good (by have := h.cnt; omega)
theorem codeH_range (ss : List Int) : codeH ss = 0 ∨ codeH ss = 4 ∨ codeH ss = 5 := by
  unfold codeH
  split
  · exact .inr (.inr rfl)
  · split
    · split
      · exact .inr (.inl rfl)
      · exact .inl rfl
    · exact .inr (.inr rfl)
end Go.Proofs.YtdnaildhcnekfaaDoor
