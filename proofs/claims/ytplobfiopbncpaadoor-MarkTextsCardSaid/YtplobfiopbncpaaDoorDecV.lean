/- Layer 2: the reference's Text, whole. -/
import Derived.Test.YtplobfiopbncpaaDoorDecQ
namespace Go.Proofs.YtplobfiopbncpaaDoor
open Go.RowKit
set_option linter.unusedVariables false
theorem fracD_last : ∀ (f k p : Nat), p < 2 ^ k → 2 ^ k ∣ 2 ^ f * p → fracD f k p = [] ∧ p = 0 ∨ ∃ l d, fracD f k p = l ++ [d] ∧ d ≠ 0
  | 0, k, p, hp, h => .inl ⟨rfl, zero_of_dvd h hp⟩
  | f + 1, k, p, hp, h => by
    rw [fracD]
    by_cases h0 : p = 0
    · rw [if_pos h0]; exact .inl ⟨rfl, h0⟩
    · rw [if_neg h0]
      right
      rcases fracD_last f k _ (Nat.mod_lt _ (pow_pos2 k)) (dvd_step h) with ⟨e, hz⟩ | ⟨l, d, e, hd⟩
      · rw [e]
        refine ⟨[], _, rfl, fun h1 => ?_⟩
        have := Nat.div_add_mod (10 * p) (2 ^ k)
        rw [h1, hz] at this
        omega
      · rw [e]
        exact ⟨_ :: l, d, rfl, hd⟩
theorem fracL_last {k p : Nat} (hk : k ≤ 63) (hp : p < 2 ^ k) : fracL k p = [] ∧ p = 0 ∨ ∃ l d, fracL k p = l ++ [d] ∧ d ≠ 0 :=
  fracD_last 64 k p hp (Nat.dvd_trans (Nat.pow_dvd_pow 2 (show k ≤ 64 by omega)) (Nat.dvd_mul_right _ _))
theorem half_next (n i : Nat) (hi : i ≤ 62) : halfD (n / 2 ^ i % 2) (fracL i (n % 2 ^ i)) = fracL (i + 1) (n % 2 ^ (i + 1)) := by
  rw [halfD_fracL hi (Nat.mod_lt _ (pow_pos2 i)) (by omega), Nat.mod_pow_succ, Nat.add_comm (n % 2 ^ i), Nat.mul_comm (n / 2 ^ i % 2)]
theorem bit_eq (a j : Nat) (ha : a ≤ 9223372036854775808) : wrap64 (bits BinOp.and IntKind.u64 ((a : Int) / 2 ^ j) 1) = ((a / 2 ^ j % 2 : Nat) : Int) := by
  have h1 : a / 2 ^ j ≤ a := Nat.div_le_self _ _
  have h := and_mask (a / 2 ^ j) 1 (by omega) (by omega)
  rw [show IntKind.u64.wrap (IntKind.u64.wrap (2 ^ 1) - 1) = 1 by decide] at h
  have e : ((a / 2 ^ j : Nat) : Int) = (a : Int) / 2 ^ j := by rw [Int.natCast_ediv, Int.natCast_pow]; rfl
  rw [← e, h, Nat.pow_one]
  unfold wrap64
  omega
end Go.Proofs.YtplobfiopbncpaaDoor
