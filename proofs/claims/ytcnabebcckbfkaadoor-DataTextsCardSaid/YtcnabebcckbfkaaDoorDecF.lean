/- Layer 2: the digits of a fraction. -/
import Derived.Test.YtcnabebcckbfkaaDoorDecM
import Derived.Test.YtcnabebcckbfkaaDoorDecU
import Derived.Test.YtcnabebcckbfkaaDoorFixpC
import Derived.Test.YtcnabebcckbfkaaDoorAppL
namespace Go.Proofs.YtcnabebcckbfkaaDoor
open Go.RowKit
set_option linter.unusedVariables false
theorem elemRune : Elem Tryd.prog 72 21 (.int .i32 0) 1 4 := ⟨Tryd.underlying72, info_parts (by kernel_rfl), rfl, by decide⟩
def runes (ds : List Nat) : List Value := ds.map fun (d : Nat) => Value.int .i32 (48 + (d : Int))
theorem fracD_length : ∀ (f k p : Nat), (fracD f k p).length ≤ f
  | 0, _, _ => Nat.le_refl _
  | f + 1, k, p => by
    rw [fracD_succ]
    by_cases h : p = 0
    · rw [if_pos h]; exact Nat.zero_le _
    · rw [if_neg h, List.length_cons]
      have := fracD_length f k (10 * p % 2 ^ k)
      omega
theorem fracL_length (k p : Nat) : (fracL k p).length ≤ 64 := fracD_length 64 k p
theorem wrap_mask (k : Nat) (hk : k ≤ 62) : IntKind.u64.wrap (IntKind.u64.wrap (2 ^ k) - 1) = ((2 ^ k - 1 : Nat) : Int) := by
  have h1 : (2 : Nat) ^ k ≤ 2 ^ 62 := Nat.pow_le_pow_right (by decide) hk
  have h2 := pow_pos2 k
  have e : (2 : Int) ^ k = ((2 ^ k : Nat) : Int) := by rw [Int.natCast_pow]; rfl
  rw [e]
  generalize (2 : Nat) ^ k = m at *
  rw [IntKind.wrap_u64, IntKind.wrap_u64]
  omega
theorem and_mask (a k : Nat) (hk : k ≤ 62) (ha : a < 18446744073709551616) : bits BinOp.and IntKind.u64 (a : Int) (IntKind.u64.wrap (IntKind.u64.wrap (2 ^ k) - 1)) = ((a % 2 ^ k : Nat) : Int) := by
  have h1 : (2 : Nat) ^ k ≤ 2 ^ 62 := Nat.pow_le_pow_right (by decide) hk
  have h2 : (2 : Nat) ^ 62 = 4611686018427387904 := by decide
  rw [wrap_mask k hk]
  have h := bits_and_u64_nat a (2 ^ k - 1) (by omega) (by omega)
  rw [Nat.and_two_pow_sub_one_eq_mod] at h
  exact h
theorem lo_nat (q : Nat) : lo128 ((q : Int) * 10) = ((10 * q % 18446744073709551616 : Nat) : Int) := by
  unfold lo128
  omega
theorem mod_mod_pow (n k : Nat) (hk : k ≤ 62) : n % 18446744073709551616 % 2 ^ k = n % 2 ^ k := by
  have : 2 ^ k ∣ 18446744073709551616 := by
    rw [show (18446744073709551616 : Nat) = 2 ^ 64 from by decide]
    exact Nat.pow_dvd_pow 2 (by omega)
  exact Nat.mod_mod_of_dvd n this
theorem frac_shift (q k : Nat) (hk : k ≤ 62) (hq : q < 2 ^ k) : shiftq (hi128 ((q : Int) * 10)) (lo128 ((q : Int) * 10)) k = ((10 * q / 2 ^ k : Nat) : Int) := by
  rw [shiftq_parts _ _ (by omega), if_pos (by omega), Int.toNat_natCast]
  have e : (q : Int) * 10 / 2 ^ k = ((10 * q / 2 ^ k : Nat) : Int) := by
    rw [Int.natCast_ediv, Int.natCast_mul, Int.mul_comm, Int.natCast_pow]
    rfl
  rw [e]
  have hd : 10 * q / 2 ^ k < 10 := by
    rw [Nat.div_lt_iff_lt_mul (pow_pos2 k)]
    exact Nat.mul_lt_mul_of_pos_left hq (by decide)
  generalize 10 * q / 2 ^ k = d at *
  unfold wrap64
  omega
set_option maxHeartbeats 2000000 in
theorem fraction_any (p k : Nat) (hk : k ≤ 62) (hp : p < 2 ^ k) (w : World) :
    Calls Tryd.prog 49 #[.int .u64 p, .int .i64 k] w (ClonedTo 21 1 (fracL k p).length (runes (fracL k p)) w) := by
  go_enter Tryd.func49, Tryd.ntmps49
  go_wp2_with fail
  go_loopw [0, 5] (fun p' o wr => ∃ (q : Nat) (done : List Nat), p' = .int .u64 q ∧ q < 2 ^ k ∧ fracL k p = done ++ fracL k q ∧ wr.ownsRow w.heap.size 21 1 o done.length (runes done) ∧ Below w.heap.size w wr) (fun p' _ _ => (fracL k (intOf p').toNat).length)
  case atStart => exact ⟨p, [], rfl, hp, rfl, ⟨by rfl, .inl ⟨rfl, rfl⟩⟩, Below.refl _ _⟩
  case round =>
    obtain ⟨q, done, rfl, hq, hf, ho, hB⟩ := hrel
    by_cases h0 : q = 0
    · subst h0
      rw [fracL_zero, List.append_nil] at hf
      subst hf
      go_wp2_with fail
      go_ret
      exact ⟨_, rfl, ho, hB⟩
    · have hq62 : q < 4611686018427387904 := Nat.lt_of_lt_of_le hq (by
        have := Nat.pow_le_pow_right (show 0 < 2 by decide) hk
        exact this)
      have hne : ((q : Int) != 0) = true := by simp; omega
      go_wp2_with fail
      refine (product_any q 10 (by omega) (by omega) (by omega) (by omega) _).mono ?_
      rintro e w1 ⟨rfl, b1⟩
      have hsh := frac_shift q k hk hq
      have hd : 10 * q / 2 ^ k < 10 := by
        rw [Nat.div_lt_iff_lt_mul (pow_pos2 k)]
        exact Nat.mul_lt_mul_of_pos_left hq (by decide)
      have hfs := fracL_succ (k := k) (by omega) h0
      have hr := Nat.mod_lt (10 * q) (pow_pos2 k)
      go_wp2_with fail
      refine (shift_any _ _ _ _ (lo128_range _).1 (lo128_range _).2).mono ?_
      rintro e w2 ⟨rfl, b2⟩
      rw [hsh]
      have HO := Lib.hid (own_below (own_below ho b1) b2)
      have HB := Lib.hid (hB.trans ((below_step b1 b2).mono hB.size))
      have HF := Lib.hid hf
      have HFS := Lib.hid hfs
      have HR := Lib.hid hr
      have HQ := Lib.hid hq
      have hs := hB.size
      have hs2 := HB.out.size
      have hdl : done.length ≤ 64 := by
        have := fracL_length k p
        rw [hf, List.length_append] at this
        omega
      have hand := and_mask (10 * q % 18446744073709551616) k hk (Nat.mod_lt _ (by decide))
      rw [mod_mod_pow _ _ hk, ← lo_nat] at hand
      have HAND := Lib.hid hand
      clear ho hB hf hfs hr b1 b2 hsh hq hand
      generalize 10 * q / 2 ^ k = d at *
      generalize 10 * q % 2 ^ k = q2 at *
      go_wp2_with (at_builtin; refine append_one elemRune rfl _ _ rfl rfl rfl HO.out rfl ?_ ?_ ?_ ?_ ?_; (simp [Value.oneCell']); (unfold maxLen; omega); omega; (exact hs2); intro v' w' ho' hg'; have HO4 := Lib.hid ho'; have HB4 := Lib.hid (below_appended HB.out HO.out hg' (Nat.le_refl _) hs2); clear ho' hg')
      refine ⟨⟨q2, done ++ [d], congrArg (Value.int .u64) HAND.out, HR.out, by rw [HF.out, HFS.out, List.append_assoc]; rfl, ?_, HB4.out⟩, ?_⟩
      · have := HO4.out
        rw [List.length_append]
        unfold runes at *
        rw [List.map_append]
        exact this
      · rw [HAND.out]
        show (fracL k ((q2 : Int)).toNat).length < (fracL k ((q : Int)).toNat).length
        rw [Int.toNat_natCast, Int.toNat_natCast, HFS.out, List.length_cons]
        exact Nat.lt_succ_self _
end Go.Proofs.YtcnabebcckbfkaaDoor
