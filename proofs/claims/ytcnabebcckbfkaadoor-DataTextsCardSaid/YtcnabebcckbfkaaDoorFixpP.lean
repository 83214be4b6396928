/- Plain arithmetic for a product that is made bit by bit in two words. Nothing here speaks of a program's numbers. -/
import Derived.Test.YtcnabebcckbfkaaDoorFixpM
import Derived.WalkKit
namespace Go.Proofs.YtcnabebcckbfkaaDoor
open Go.RowKit

/-- what is gathered after k bits, as an integer -/
def gathered (a b : Int) (k : Nat) : Int := if k ≤ 63 then a * (b % 18446744073709551616 % 2 ^ k) else a * b
theorem gathered_zero (a b : Int) : gathered a b 0 = 0 := by unfold gathered; simp
theorem gathered_last (a b : Int) : gathered a b 64 = a * b := by unfold gathered; rw [if_neg (by omega)]

theorem bit_split (x : Int) (k : Nat) : x % 2 ^ (k + 1) = x % 2 ^ k + 2 ^ k * (x / 2 ^ k % 2) := by
  have h1 := Int.mul_ediv_add_emod x (2 ^ k)
  have h2 := Int.mul_ediv_add_emod (x / 2 ^ k) 2
  have hp := two_pos k
  have b0 := Int.emod_nonneg x (Int.ne_of_gt hp)
  have b1 := Int.emod_lt_of_pos x hp
  have e : x = 2 ^ (k + 1) * (x / 2 ^ k / 2) + (x % 2 ^ k + 2 ^ k * (x / 2 ^ k % 2)) := by
    rw [Int.pow_succ]; grind
  rw [e, Int.mul_add_emod_self_left]
  rw [← e]
  refine Int.emod_eq_of_lt ?_ ?_
  · rcases (show x / 2 ^ k % 2 = 0 ∨ x / 2 ^ k % 2 = 1 by omega) with h | h <;> rw [h] <;> omega
  · rw [Int.pow_succ]
    rcases (show x / 2 ^ k % 2 = 0 ∨ x / 2 ^ k % 2 = 1 by omega) with h | h <;> rw [h] <;> omega

theorem gathered_skip (a b : Int) (k : Nat) (hb : -9223372036854775808 ≤ b) (hb' : b ≤ 9223372036854775807) (hk : k < 64) (h : b % 18446744073709551616 / 2 ^ k % 2 = 0) : gathered a b (k + 1) = gathered a b k := by
  unfold gathered
  rw [if_pos (show k ≤ 63 by omega)]
  by_cases h63 : k = 63
  · subst h63
    rw [if_neg (by omega)]
    have e : b % 18446744073709551616 % 2 ^ 63 = b := by
      have : (2 : Int) ^ 63 = 9223372036854775808 := by decide
      rw [this] at h ⊢; omega
    rw [e]
  · rw [if_pos (by omega), bit_split, h]; simp
theorem gathered_add (a b : Int) (k : Nat) (hk : k < 63) (h : b % 18446744073709551616 / 2 ^ k % 2 = 1) : gathered a b (k + 1) = gathered a b k + a * 2 ^ k := by
  unfold gathered
  rw [if_pos (by omega), if_pos (by omega), bit_split, h, Int.mul_one, Int.mul_add]
theorem gathered_sub (a b : Int) (k : Nat) (hb : -9223372036854775808 ≤ b) (hb' : b ≤ 9223372036854775807) (hk : k = 63) (h : b % 18446744073709551616 / 2 ^ k % 2 = 1) : gathered a b (k + 1) = gathered a b k + -(a * 2 ^ k) := by
  subst hk
  unfold gathered
  rw [if_neg (by omega), if_pos (by omega)]
  have : (2 : Int) ^ 63 = 9223372036854775808 := by decide
  rw [this] at h ⊢
  have e : b % 18446744073709551616 % 9223372036854775808 = b + 9223372036854775808 := by omega
  rw [e, Int.mul_add]; omega

theorem and_one_word (x : Int) (h0 : 0 ≤ x) (h1 : x < 18446744073709551616) : bits .and .u64 x 1 = x % 2 := by
  obtain ⟨y, rfl⟩ := Int.eq_ofNat_of_zero_le h0
  have h := bits_and_u64_nat y 1 (by omega) (by omega)
  rw [show ((1 : Nat) : Int) = 1 from rfl] at h
  rw [h, show y &&& 1 = y % 2 from Nat.and_two_pow_sub_one_eq_mod y 1]; omega
theorem bit_word (b : Int) (k : Nat) : bits .and .u64 (IntKind.u64.wrap b / 2 ^ k) 1 = b % 18446744073709551616 / 2 ^ k % 2 := by
  have h0 : 0 ≤ b % 18446744073709551616 := by omega
  have h1 := Int.ediv_nonneg h0 (Int.le_of_lt (two_pos k))
  have h2 := Int.ediv_le_self (2 ^ k) h0
  rw [IntKind.wrap_u64]
  exact and_one_word _ h1 (by omega)
theorem bit_zero {b : Int} {k : Nat} (h : (bits .and .u64 (IntKind.u64.wrap b / 2 ^ k) 1 == 0) = true) : b % 18446744073709551616 / 2 ^ k % 2 = 0 := by
  rw [bit_word] at h; simpa using h
theorem bit_one {b : Int} {k : Nat} (h : (bits .and .u64 (IntKind.u64.wrap b / 2 ^ k) 1 == 0) = false) : b % 18446744073709551616 / 2 ^ k % 2 = 1 := by
  rw [bit_word] at h
  have : b % 18446744073709551616 / 2 ^ k % 2 ≠ 0 := by simpa using h
  omega

theorem xor_ones (y : Int) (h0 : 0 ≤ y) (h1 : y < 18446744073709551616) : bits .xor .u64 (if IntKind.u64.signed = true then -1 else IntKind.u64.max) y = 18446744073709551615 - y := by
  obtain ⟨n, rfl⟩ := Int.eq_ofNat_of_zero_le h0
  have e : (if IntKind.u64.signed = true then -1 else IntKind.u64.max) = ((18446744073709551615 : Nat) : Int) := by decide
  rw [e, bits_xor_u64_nat _ _ (by decide) (by omega)]
  have hn : n < 2 ^ 64 := by omega
  have : 18446744073709551615 ^^^ n = 18446744073709551615 - n := by
    have hb : (BitVec.allOnes 64 ^^^ BitVec.ofNat 64 n).toNat = 18446744073709551615 - n := by
      rw [BitVec.allOnes_xor, BitVec.toNat_not, BitVec.toNat_ofNat, Nat.mod_eq_of_lt hn]
    rw [BitVec.toNat_xor, BitVec.toNat_ofNat, Nat.mod_eq_of_lt hn] at hb
    simpa using hb
  rw [this]; omega

/-- both words after k bits -/
def PInv (a b : Int) (k : Nat) (hi lo : Value) : Prop := ∃ h l : Int, hi = .int .u64 h ∧ lo = .int .u64 l ∧ 0 ≤ h ∧ h < 18446744073709551616 ∧ 0 ≤ l ∧ l < 18446744073709551616 ∧ (h * 18446744073709551616 + l) % 340282366920938463463374607431768211456 = gathered a b k % 340282366920938463463374607431768211456
theorem pinv_start (a b : Int) : PInv a b 0 (.int .u64 0) (.int .u64 0) := ⟨0, 0, rfl, rfl, by omega, by omega, by omega, by omega, by rw [gathered_zero]; rfl⟩
theorem pinv_skip {a b : Int} {k : Nat} {hi lo : Value} (p : PInv a b k hi lo) (e : gathered a b (k + 1) = gathered a b k) : PInv a b (k + 1) hi lo := by
  obtain ⟨h, l, r⟩ := p; exact ⟨h, l, by rw [e]; exact r⟩
theorem pinv_carry {a b : Int} {k : Nat} {h l xh xl X : Int} (p : PInv a b k (.int .u64 h) (.int .u64 l)) (hx : (xh * 18446744073709551616 + xl) % 340282366920938463463374607431768211456 = X % 340282366920938463463374607431768211456) (x0 : 0 ≤ xl) (x1 : xl < 18446744073709551616)
    (e : gathered a b (k + 1) = gathered a b k + X) (hc : IntKind.u64.wrap (l + xl) < l) : PInv a b (k + 1) (.int .u64 (IntKind.u64.wrap (IntKind.u64.wrap (h + 1) + xh))) (.int .u64 (IntKind.u64.wrap (l + xl))) := by
  obtain ⟨h', l', e1, e2, r⟩ := p
  cases e1; cases e2
  simp only [IntKind.wrap_u64] at *
  exact ⟨_, _, rfl, rfl, by omega, by omega, by omega, by omega, by rw [e]; omega⟩
theorem pinv_plain {a b : Int} {k : Nat} {h l xh xl X : Int} (p : PInv a b k (.int .u64 h) (.int .u64 l)) (hx : (xh * 18446744073709551616 + xl) % 340282366920938463463374607431768211456 = X % 340282366920938463463374607431768211456) (x0 : 0 ≤ xl) (x1 : xl < 18446744073709551616)
    (e : gathered a b (k + 1) = gathered a b k + X) (hc : l ≤ IntKind.u64.wrap (l + xl)) : PInv a b (k + 1) (.int .u64 (IntKind.u64.wrap (h + xh))) (.int .u64 (IntKind.u64.wrap (l + xl))) := by
  obtain ⟨h', l', e1, e2, r⟩ := p
  cases e1; cases e2
  simp only [IntKind.wrap_u64] at *
  exact ⟨_, _, rfl, rfl, by omega, by omega, by omega, by omega, by rw [e]; omega⟩

/-- the lower word of a multiple -/
theorem xlo_eq (a : Int) (k : Nat) : IntKind.u64.wrap (IntKind.u64.wrap a * 2 ^ k) = a * 2 ^ k % 18446744073709551616 := by
  rw [IntKind.wrap_u64, IntKind.wrap_u64, Int.mul_emod, Int.emod_emod_of_dvd _ (Int.dvd_refl _), ← Int.mul_emod]
/-- its upper word: s is the sign's word -/
theorem xhi_eq (a s : Int) (k n : Nat) (h : n + k = 64) (ha : s * 18446744073709551616 + a % 18446744073709551616 = a) :
    bits .or .u64 (IntKind.u64.wrap (IntKind.u64.wrap s * 2 ^ k)) (IntKind.u64.wrap a / 2 ^ n) = a * 2 ^ k / 18446744073709551616 % 18446744073709551616 := by
  rw [IntKind.wrap_u64 a, shift_word s _ n k h (by omega) (by omega), ha]
  congr 1
  rw [← pow_split h, Int.mul_ediv_mul_of_pos_left a _ (two_pos k)]
theorem xmid (a s : Int) (k n : Nat) (h : n + k = 64) (ha : s * 18446744073709551616 + a % 18446744073709551616 = a) :
    ((bits .or .u64 (IntKind.u64.wrap (IntKind.u64.wrap s * 2 ^ k)) (IntKind.u64.wrap a / 2 ^ n)) * 18446744073709551616 + IntKind.u64.wrap (IntKind.u64.wrap a * 2 ^ k)) % 340282366920938463463374607431768211456 = a * 2 ^ k % 340282366920938463463374607431768211456 := by
  rw [xhi_eq a s k n h ha, xlo_eq]
  generalize a * 2 ^ k = y
  omega
theorem xmidN (a : Int) (k : Nat) (hk : 0 < k) (hk' : k < 64) (ha0 : -9223372036854775808 ≤ a) (ha : a < 0) :
    ((bits .or .u64 (IntKind.u64.wrap (18446744073709551615 * 2 ^ k)) (IntKind.u64.wrap a / 2 ^ (64 - k))) * 18446744073709551616 + IntKind.u64.wrap (IntKind.u64.wrap a * 2 ^ k)) % 340282366920938463463374607431768211456 = a * 2 ^ k % 340282366920938463463374607431768211456 :=
  xmid a (-1) k (64 - k) (by omega) (by omega)
theorem wrap_pos (a : Int) (ha0 : a ≤ 9223372036854775807) (ha : 0 ≤ a) : IntKind.u64.wrap a = a := by rw [IntKind.wrap_u64]; omega
theorem xmidP (a : Int) (k : Nat) (hk : 0 < k) (hk' : k < 64) (ha0 : a ≤ 9223372036854775807) (ha : 0 ≤ a) :
    ((bits .or .u64 0 (a / 2 ^ (64 - k))) * 18446744073709551616 + IntKind.u64.wrap (a * 2 ^ k)) % 340282366920938463463374607431768211456 = a * 2 ^ k % 340282366920938463463374607431768211456 := by
  have h := xmid a 0 k (64 - k) (by omega) (by omega)
  rw [wrap_pos a ha0 ha, show IntKind.u64.wrap (IntKind.u64.wrap 0 * 2 ^ k) = 0 by rw [show IntKind.u64.wrap 0 = 0 by decide, Int.zero_mul]; decide] at h
  exact h
theorem xmid0N (a : Int) (k : Nat) (hk : ¬ 0 < k) (ha0 : -9223372036854775808 ≤ a) (ha : a < 0) :
    (18446744073709551615 * 18446744073709551616 + IntKind.u64.wrap (IntKind.u64.wrap a * 2 ^ k)) % 340282366920938463463374607431768211456 = a * 2 ^ k % 340282366920938463463374607431768211456 := by
  have e : k = 0 := by omega
  subst e
  rw [xlo_eq, Int.pow_zero]; omega
theorem xmid0P (a : Int) (k : Nat) (hk : ¬ 0 < k) (ha0 : a ≤ 9223372036854775807) (ha : 0 ≤ a) :
    (0 * 18446744073709551616 + IntKind.u64.wrap (a * 2 ^ k)) % 340282366920938463463374607431768211456 = a * 2 ^ k % 340282366920938463463374607431768211456 := by
  have e : k = 0 := by omega
  subst e
  rw [IntKind.wrap_u64, Int.pow_zero]; omega
theorem pinv_carry0 {a b : Int} {k : Nat} {h l xl X : Int} (p : PInv a b k (.int .u64 h) (.int .u64 l)) (hx : (0 * 18446744073709551616 + xl) % 340282366920938463463374607431768211456 = X % 340282366920938463463374607431768211456) (x0 : 0 ≤ xl) (x1 : xl < 18446744073709551616)
    (e : gathered a b (k + 1) = gathered a b k + X) (hc : IntKind.u64.wrap (l + xl) < l) : PInv a b (k + 1) (.int .u64 (IntKind.u64.wrap (IntKind.u64.wrap (h + 1)))) (.int .u64 (IntKind.u64.wrap (l + xl))) := by
  have := pinv_carry p hx x0 x1 e hc
  simpa using this
theorem pinv_plain0 {a b : Int} {k : Nat} {h l xl X : Int} (p : PInv a b k (.int .u64 h) (.int .u64 l)) (hx : (0 * 18446744073709551616 + xl) % 340282366920938463463374607431768211456 = X % 340282366920938463463374607431768211456) (x0 : 0 ≤ xl) (x1 : xl < 18446744073709551616)
    (e : gathered a b (k + 1) = gathered a b k + X) (hc : l ≤ IntKind.u64.wrap (l + xl)) : PInv a b (k + 1) (.int .u64 h) (.int .u64 (IntKind.u64.wrap (l + xl))) := by
  have h1 := pinv_plain p hx x0 x1 e hc
  obtain ⟨h', l', e1, e2, r1, r2, r⟩ := p
  cases e1
  have e0 : IntKind.u64.wrap (h + 0) = h := by rw [IntKind.wrap_u64]; omega
  rw [e0] at h1; exact h1
theorem word_range (x : Int) : 0 ≤ IntKind.u64.wrap x ∧ IntKind.u64.wrap x < 18446744073709551616 := by rw [IntKind.wrap_u64]; omega
theorem or_range (x y : Int) : 0 ≤ bits .or .u64 x y ∧ bits .or .u64 x y < 18446744073709551616 := word_range _
theorem is63 {k : Nat} (h : ((k : Int) == 63) = true) : k = 63 := by
  have : (k : Int) = 63 := by simpa using h
  omega
theorem not63 {k : Nat} (h : ((k : Int) == 63) = false) (h2 : (k : Int) < 64) : k < 63 := by
  have : ¬ (k : Int) = 63 := by simpa using h
  omega
theorem xneg {xh xl X : Int} (hx : (xh * 18446744073709551616 + xl) % 340282366920938463463374607431768211456 = X % 340282366920938463463374607431768211456) (h0 : 0 ≤ xh) (h1 : xh < 18446744073709551616) (l0 : 0 ≤ xl) (l1 : xl < 18446744073709551616)
    (hz : (IntKind.u64.wrap (bits .xor .u64 (if IntKind.u64.signed = true then -1 else IntKind.u64.max) xl + 1) == 0) = false) :
    ((bits .xor .u64 (if IntKind.u64.signed = true then -1 else IntKind.u64.max) xh) * 18446744073709551616 + IntKind.u64.wrap (bits .xor .u64 (if IntKind.u64.signed = true then -1 else IntKind.u64.max) xl + 1)) % 340282366920938463463374607431768211456 = -X % 340282366920938463463374607431768211456 := by
  rw [xor_ones _ l0 l1, IntKind.wrap_u64] at *
  rw [xor_ones _ h0 h1]
  have : (18446744073709551615 - xl + 1) % 18446744073709551616 ≠ 0 := by simpa using hz
  omega
theorem xneg' {xh xl X : Int} (hx : (xh * 18446744073709551616 + xl) % 340282366920938463463374607431768211456 = X % 340282366920938463463374607431768211456) (h0 : 0 ≤ xh) (h1 : xh < 18446744073709551616) (l0 : 0 ≤ xl) (l1 : xl < 18446744073709551616)
    (hz : (IntKind.u64.wrap (bits .xor .u64 (if IntKind.u64.signed = true then -1 else IntKind.u64.max) xl + 1) == 0) = true) :
    ((IntKind.u64.wrap (bits .xor .u64 (if IntKind.u64.signed = true then -1 else IntKind.u64.max) xh + 1)) * 18446744073709551616 + IntKind.u64.wrap (bits .xor .u64 (if IntKind.u64.signed = true then -1 else IntKind.u64.max) xl + 1)) % 340282366920938463463374607431768211456 = -X % 340282366920938463463374607431768211456 := by
  rw [xor_ones _ l0 l1, IntKind.wrap_u64] at *
  rw [xor_ones _ h0 h1, IntKind.wrap_u64]
  have : (18446744073709551615 - xl + 1) % 18446744073709551616 = 0 := by simpa using hz
  omega
theorem ret_words {a b c d : Int} (h1 : a = b) (h2 : c = d) : Ending.returned (.tuple #[.int .i64 a, .int .u64 c]) = .returned (.tuple #[.int .i64 b, .int .u64 d]) := by rw [h1, h2]
theorem pinv_end {a b : Int} {h l : Int} (ha : -9223372036854775808 ≤ a) (ha' : a ≤ 9223372036854775807) (hb : -9223372036854775808 ≤ b) (hb' : b ≤ 9223372036854775807) (p : PInv a b 64 (.int .u64 h) (.int .u64 l)) : wrap64 h = hi128 (a * b) ∧ l = lo128 (a * b) := by
  obtain ⟨h', l', e1, e2, r1, r2, r3, r4, r⟩ := p
  cases e1; cases e2
  rw [gathered_last] at r
  have hr := hi128_range a b ha ha' hb hb'
  unfold hi128 lo128 wrap64 at *
  generalize a * b = y at *
  omega
end Go.Proofs.YtcnabebcckbfkaaDoor
