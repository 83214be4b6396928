/- Layer 2: Whole and Part; the walk of DeciParts. -/
import Derived.Test.YtcnabebcckbfkaaDoorDecT
namespace Go.Proofs.YtcnabebcckbfkaaDoor
open Go.RowKit
set_option linter.unusedVariables false
def wholeQ (x q : Int) : Int := if inQ q then x / 2 ^ q.toNat else 0
def partQ (x q : Int) : Int := if inQ q then x % 2 ^ q.toNat else 0
theorem inQ_nat {q : Int} (h : inQ q = true) : ∃ k : Nat, q = k ∧ k ≤ 62 := by
  unfold inQ at h
  have h' : 0 ≤ q ∧ q ≤ 62 := by simpa using h
  exact ⟨q.toNat, by omega, by omega⟩
theorem pow_int (k : Nat) (hk : k ≤ 62) : (2 : Int) ^ k = ((2 ^ k : Nat) : Int) ∧ 1 ≤ (2 : Int) ^ k ∧ (2 : Int) ^ k ≤ 4611686018427387904 := by
  have e : (2 : Int) ^ k = ((2 ^ k : Nat) : Int) := by rw [Int.natCast_pow]; rfl
  have h1 : (2 : Nat) ^ k ≤ 2 ^ 62 := Nat.pow_le_pow_right (by decide) hk
  have h2 := pow_pos2 k
  have h3 : (2 : Nat) ^ 62 = 4611686018427387904 := by decide
  omega
theorem part_mask (x : Int) (k : Nat) (hk : k ≤ 62) : bits BinOp.and IntKind.u64 (IntKind.u64.wrap x) (IntKind.u64.wrap (IntKind.u64.wrap (2 ^ k) - 1)) = x % 2 ^ k := by
  have h0 : 0 ≤ IntKind.u64.wrap x ∧ IntKind.u64.wrap x < 18446744073709551616 := by rw [IntKind.wrap_u64]; omega
  have h := and_mask (IntKind.u64.wrap x).toNat k hk (by omega)
  rw [Int.toNat_of_nonneg h0.1] at h
  rw [h]
  obtain ⟨e, p1, p2⟩ := pow_int k hk
  rw [Int.natCast_emod, Int.toNat_of_nonneg h0.1, ← e, IntKind.wrap_u64]
  have hd : (2 : Int) ^ k ∣ 18446744073709551616 := by
    rw [e, show (18446744073709551616 : Int) = ((2 ^ 64 : Nat) : Int) from by decide]
    exact Int.natCast_dvd_natCast.2 (Nat.pow_dvd_pow 2 (by omega))
  exact Int.emod_emod_of_dvd x hd
end Go.Proofs.YtcnabebcckbfkaaDoor
