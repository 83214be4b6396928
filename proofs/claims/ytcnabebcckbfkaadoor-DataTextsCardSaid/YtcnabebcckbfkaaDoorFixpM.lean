/- Plain arithmetic for fixed-point numbers: words of 64 bits, products of 128 bits, shifts. Nothing here speaks of a program. -/
import Derived.Laws.Bits64b
import Derived.RowKit
import Derived.IntWalk
namespace Go.Proofs.YtcnabebcckbfkaaDoor
open Go.RowKit

theorem wrap64_mod (a : Int) : wrap64 (a % 18446744073709551616) = wrap64 a := by unfold wrap64; omega
theorem wrap64_congr {a b : Int} (h : a % 18446744073709551616 = b % 18446744073709551616) : wrap64 a = wrap64 b := by unfold wrap64; omega
theorem wrap64_id {a : Int} (h : -9223372036854775808 ≤ a) (h2 : a ≤ 9223372036854775807) : wrap64 a = a := by unfold wrap64; omega
theorem wrap64_lo (a : Int) : -9223372036854775808 ≤ wrap64 a := by unfold wrap64; omega
theorem wrap64_hi (a : Int) : wrap64 a ≤ 9223372036854775807 := by unfold wrap64; omega
theorem pow_split {n k : Nat} (h : n + k = 64) : (2 : Int) ^ n * 2 ^ k = 18446744073709551616 := by
  rw [← Int.pow_add, h]; decide
theorem two_pos (n : Nat) : (0 : Int) < 2 ^ n := Int.pow_pos (by decide)

theorem shl_word (hi : Int) (n k : Nat) (h : n + k = 64) : IntKind.u64.wrap (IntKind.u64.wrap hi * 2 ^ k) = 2 ^ k * (hi % 2 ^ n) := by
  rw [IntKind.wrap_u64, IntKind.wrap_u64, ← Int.mul_emod_mul_of_pos _ _ (two_pos k), Int.mul_comm (2 ^ k) (2 ^ n), pow_split h, Int.mul_comm (2 ^ k) hi]
  rw [Int.mul_emod, Int.emod_emod_of_dvd _ (Int.dvd_refl _), ← Int.mul_emod]

theorem or_disjoint (a b : Int) (k n : Nat) (h : n + k = 64) (ha : 0 ≤ a) (ha' : a < 2 ^ n) (hb : 0 ≤ b) (hb' : b < 2 ^ k) :
    bits .or .u64 (2 ^ k * a) b = 2 ^ k * a + b := by
  obtain ⟨x, rfl⟩ := Int.eq_ofNat_of_zero_le ha
  obtain ⟨y, rfl⟩ := Int.eq_ofNat_of_zero_le hb
  have e : (2 : Int) ^ k * (x : Int) = ((2 ^ k * x : Nat) : Int) := by simp
  have hx : x < 2 ^ n := by exact_mod_cast ha'
  have hy : y < 2 ^ k := by exact_mod_cast hb'
  have hm : (2 : Nat) ^ n * 2 ^ k = 18446744073709551616 := by rw [← Nat.pow_add, h]
  have hk : (2 : Nat) ^ k ≤ 18446744073709551616 := by rw [← hm]; exact Nat.le_mul_of_pos_left _ (Nat.two_pow_pos n)
  have h1 : 2 ^ k * x + 2 ^ k ≤ 18446744073709551616 := by
    have : 2 ^ k * (x + 1) ≤ 2 ^ k * 2 ^ n := Nat.mul_le_mul_left _ hx
    rw [Nat.mul_comm _ (2 ^ n), hm, Nat.mul_add] at this; omega
  rw [e, bits_or_u64_nat _ _ (by omega) (by omega), ← Nat.two_pow_add_eq_or_of_lt hy]
  exact Int.natCast_add _ _

theorem or_swap (a b : Int) : bits .or .u64 a b = bits .or .u64 b a := by simp only [bits, BitVec.or_comm]

theorem div_lt_pow (lo : Int) (n k : Nat) (h : n + k = 64) (h0 : 0 ≤ lo) (h1 : lo < 18446744073709551616) : 0 ≤ lo / 2 ^ n ∧ lo / 2 ^ n < 2 ^ k :=
  ⟨Int.ediv_nonneg h0 (Int.le_of_lt (two_pos n)), by
    refine Int.ediv_lt_of_lt_mul (two_pos n) ?_
    rw [Int.mul_comm, pow_split h]; exact h1⟩

/-- a number of 128 bits, shifted to the right: its lower word -/
theorem shift_word (hi lo : Int) (n k : Nat) (h : n + k = 64) (h0 : 0 ≤ lo) (h1 : lo < 18446744073709551616) :
    bits .or .u64 (IntKind.u64.wrap (IntKind.u64.wrap hi * 2 ^ k)) (lo / 2 ^ n) = (hi * 18446744073709551616 + lo) / 2 ^ n % 18446744073709551616 := by
  obtain ⟨d0, d1⟩ := div_lt_pow lo n k h h0 h1
  rw [shl_word hi n k h, or_disjoint _ _ k n h (Int.emod_nonneg _ (Int.ne_of_gt (two_pos n))) (Int.emod_lt_of_pos _ (two_pos n)) d0 d1]
  have e : (hi * 18446744073709551616 + lo) / 2 ^ n = hi * 2 ^ k + lo / 2 ^ n := by
    rw [← pow_split h, ← Int.mul_assoc, Int.mul_comm hi (2 ^ n), Int.mul_assoc, Int.add_comm, Int.mul_comm, Int.add_mul_ediv_right _ _ (Int.ne_of_gt (two_pos n)), Int.add_comm, Int.mul_comm]
  rw [e]
  have m : hi * 2 ^ k % 18446744073709551616 = 2 ^ k * (hi % 2 ^ n) := by
    rw [← Int.mul_emod_mul_of_pos _ _ (two_pos k), Int.mul_comm (2 ^ k) (2 ^ n), pow_split h, Int.mul_comm]
  have b : 2 ^ k * (hi % 2 ^ n) + 2 ^ k ≤ 18446744073709551616 := by
    have h2 : hi % 2 ^ n + 1 ≤ 2 ^ n := Int.emod_lt_of_pos hi (two_pos n)
    have := Int.mul_le_mul_of_nonneg_left h2 (Int.le_of_lt (two_pos k))
    rw [Int.mul_add, Int.mul_one, Int.mul_comm (2 ^ k) (2 ^ n), pow_split h] at this
    exact this
  have z : 0 ≤ 2 ^ k * (hi % 2 ^ n) := Int.mul_nonneg (Int.le_of_lt (two_pos k)) (Int.emod_nonneg _ (Int.ne_of_gt (two_pos n)))
  generalize 2 ^ k * (hi % 2 ^ n) = A at *
  generalize lo / 2 ^ n = B at *
  generalize (2 : Int) ^ k = K at *
  omega

theorem ediv_pow_succ (x : Int) (n : Nat) : x / 2 ^ (n + 1) = x / 2 ^ n / 2 := by
  rw [Int.pow_succ, Int.ediv_ediv_of_nonneg (Int.le_of_lt (two_pos n))]

/-- both words of a number of 128 bits that is shifted -/
theorem shift_parts (hi lo : Int) (n : Nat) (h0 : 0 ≤ lo) (h1 : lo < 18446744073709551616) :
    (hi * 18446744073709551616 + lo) / 2 ^ n = hi / 2 ^ n * 18446744073709551616 + (hi * 18446744073709551616 + lo) / 2 ^ n % 18446744073709551616 := by
  have e : (hi * 18446744073709551616 + lo) / 2 ^ n / 18446744073709551616 = hi / 2 ^ n := by
    rw [Int.ediv_ediv_of_nonneg (Int.le_of_lt (two_pos n)), Int.mul_comm (2 ^ n) 18446744073709551616, ← Int.ediv_ediv_of_nonneg (by decide)]
    congr 1; omega
  generalize (hi * 18446744073709551616 + lo) / 2 ^ n = X at *
  generalize hi / 2 ^ n = Y at *
  omega

/-- the document's Shift, Mul -/
def shiftq (hi lo q : Int) : Int := if 0 ≤ q ∧ q ≤ 63 then wrap64 ((hi * 18446744073709551616 + lo) / 2 ^ q.toNat) else 0
def mulq (a b q : Int) : Int := if 0 ≤ q ∧ q ≤ 62 then wrap64 (a * b / 2 ^ q.toNat) else 0
def oneq (q : Int) : Int := if 0 ≤ q ∧ q ≤ 62 then 2 ^ q.toNat else 0
def hi128 (x : Int) : Int := x / 18446744073709551616
def lo128 (x : Int) : Int := x % 18446744073709551616
theorem parts128 (x : Int) : hi128 x * 18446744073709551616 + lo128 x = x := by unfold hi128 lo128; omega
theorem shiftq_parts (x q : Int) (h : q ≤ 62) : shiftq (hi128 x) (lo128 x) q = if 0 ≤ q ∧ q ≤ 62 then wrap64 (x / 2 ^ q.toNat) else 0 := by
  unfold shiftq; rw [parts128]
  by_cases h0 : 0 ≤ q
  · rw [if_pos ⟨h0, by omega⟩, if_pos ⟨h0, h⟩]
  · rw [if_neg (by omega), if_neg (by omega)]
theorem mulq_comm (a b q : Int) : mulq a b q = mulq b a q := by unfold mulq; rw [Int.mul_comm]
theorem mulq_one (a q : Int) (ha : -9223372036854775808 ≤ a) (hb : a ≤ 9223372036854775807) (h0 : 0 ≤ q) (h1 : q ≤ 62) : mulq a (oneq q) q = a := by
  unfold mulq oneq; rw [if_pos ⟨h0, h1⟩, if_pos ⟨h0, h1⟩, Int.mul_ediv_cancel _ (Int.ne_of_gt (two_pos _))]; exact wrap64_id ha hb
theorem shiftq_step (hi lo q : Int) (h0 : 0 ≤ lo) (h1 : lo < 18446744073709551616) (h2 : 1 ≤ q) (h3 : q ≤ 63) :
    shiftq hi lo q = shiftq (hi / 2) ((hi * 18446744073709551616 + lo) / 2 % 18446744073709551616) (q - 1) := by
  unfold shiftq
  rw [if_pos ⟨by omega, h3⟩, if_pos ⟨by omega, by omega⟩]
  have e := shift_parts hi lo 1 h0 h1
  rw [Int.pow_one] at e
  rw [← e, Int.ediv_ediv_of_nonneg (by decide)]
  congr 2
  have : q.toNat = (q - 1).toNat + 1 := by omega
  rw [this, Int.pow_succ, Int.mul_comm]

/-- the signed product out of the product of the words as they lie -/
theorem product_hi (a b : Int) (ha : -9223372036854775808 ≤ a) (ha' : a ≤ 9223372036854775807) (hb : -9223372036854775808 ≤ b) (hb' : b ≤ 9223372036854775807) :
    ((a % 18446744073709551616) * (b % 18446744073709551616) / 18446744073709551616 - (if a < 0 then b % 18446744073709551616 else 0) - (if b < 0 then a % 18446744073709551616 else 0)) % 18446744073709551616
      = (a * b / 18446744073709551616) % 18446744073709551616 := by
  have key : ∀ (x y : Int), (x + 18446744073709551616) * y = x * y + y * 18446744073709551616 := by intro x y; grind
  have key2 : ∀ (x y : Int), x * (y + 18446744073709551616) = x * y + x * 18446744073709551616 := by intro x y; grind
  by_cases h1 : a < 0
  · have ea : a % 18446744073709551616 = a + 18446744073709551616 := by omega
    by_cases h2 : b < 0
    · have eb : b % 18446744073709551616 = b + 18446744073709551616 := by omega
      rw [if_pos h1, if_pos h2, ea, eb, key, key2]
      generalize a * b = p
      omega
    · have eb : b % 18446744073709551616 = b := by omega
      rw [if_pos h1, if_neg h2, ea, eb, key]
      generalize a * b = p
      omega
  · have ea : a % 18446744073709551616 = a := by omega
    by_cases h2 : b < 0
    · have eb : b % 18446744073709551616 = b + 18446744073709551616 := by omega
      rw [if_neg h1, if_pos h2, ea, eb, key2]
      generalize a * b = p
      omega
    · have eb : b % 18446744073709551616 = b := by omega
      rw [if_neg h1, if_neg h2, ea, eb]
      simp
theorem product_lo (a b : Int) : (a % 18446744073709551616) * (b % 18446744073709551616) % 18446744073709551616 = lo128 (a * b) := by
  unfold lo128; rw [← Int.mul_emod]
theorem hi128_range (a b : Int) (ha : -9223372036854775808 ≤ a) (ha' : a ≤ 9223372036854775807) (hb : -9223372036854775808 ≤ b) (hb' : b ≤ 9223372036854775807) :
    -9223372036854775808 ≤ hi128 (a * b) ∧ hi128 (a * b) ≤ 9223372036854775807 := by
  unfold hi128
  have h1 : (a * b).natAbs ≤ 9223372036854775808 * 9223372036854775808 := by
    rw [Int.natAbs_mul]; exact Nat.mul_le_mul (by omega) (by omega)
  generalize a * b = p at *
  omega

theorem wrap_is {a : Int} (h0 : 0 ≤ a) (h1 : a ≤ 9223372036854775807) : IntKind.u64.wrap a = a := by rw [IntKind.wrap_u64]; omega
theorem pc_nn (a b : Int) (ha : -9223372036854775808 ≤ a) (ha' : a ≤ 9223372036854775807) (hb : -9223372036854775808 ≤ b) (hb' : b ≤ 9223372036854775807) (h1 : a < 0) (h2 : b < 0) :
    wrap64 (IntKind.u64.wrap (IntKind.u64.wrap (IntKind.u64.wrap a * IntKind.u64.wrap b / 18446744073709551616 - IntKind.u64.wrap b) - IntKind.u64.wrap a)) = hi128 (a * b) := by
  have P := product_hi a b ha ha' hb hb'
  have R := hi128_range a b ha ha' hb hb'
  rw [if_pos h1, if_pos h2] at P
  simp only [IntKind.wrap_u64]
  unfold hi128 at *; unfold wrap64
  generalize a % 18446744073709551616 * (b % 18446744073709551616) = p at *
  generalize a * b = q at *
  omega
theorem pc_np (a b : Int) (ha : -9223372036854775808 ≤ a) (ha' : a ≤ 9223372036854775807) (hb : -9223372036854775808 ≤ b) (hb' : b ≤ 9223372036854775807) (h1 : a < 0) (h2 : 0 ≤ b) :
    wrap64 (IntKind.u64.wrap (IntKind.u64.wrap a * b / 18446744073709551616 - b)) = hi128 (a * b) := by
  have P := product_hi a b ha ha' hb hb'
  have R := hi128_range a b ha ha' hb hb'
  rw [if_pos h1, if_neg (by omega), show b % 18446744073709551616 = b by omega] at P
  simp only [IntKind.wrap_u64]
  unfold hi128 at *; unfold wrap64
  generalize a % 18446744073709551616 * b = p at *
  generalize a * b = q at *
  omega
theorem pc_pn (a b : Int) (ha : -9223372036854775808 ≤ a) (ha' : a ≤ 9223372036854775807) (hb : -9223372036854775808 ≤ b) (hb' : b ≤ 9223372036854775807) (h1 : 0 ≤ a) (h2 : b < 0) :
    wrap64 (IntKind.u64.wrap (a * IntKind.u64.wrap b / 18446744073709551616 - a)) = hi128 (a * b) := by
  have := pc_np b a hb hb' ha ha' h2 h1
  rw [Int.mul_comm a b, Int.mul_comm a]; exact this
theorem pc_pp (a b : Int) (ha' : a ≤ 9223372036854775807) (hb' : b ≤ 9223372036854775807) (h1 : 0 ≤ a) (h2 : 0 ≤ b) :
    wrap64 (a * b / 18446744073709551616) = hi128 (a * b) := by
  have R := hi128_range a b (by omega) ha' (by omega) hb'
  unfold hi128 at *
  exact wrap64_id R.1 R.2
theorem pl_nn (a b : Int) : IntKind.u64.wrap a * IntKind.u64.wrap b % 18446744073709551616 = lo128 (a * b) := by
  rw [IntKind.wrap_u64, IntKind.wrap_u64]; exact product_lo a b
theorem pl_np (a b : Int) : IntKind.u64.wrap a * b % 18446744073709551616 = lo128 (a * b) := by
  rw [IntKind.wrap_u64]; unfold lo128; rw [Int.mul_emod, Int.emod_emod_of_dvd _ (Int.dvd_refl _), ← Int.mul_emod]
theorem pl_pn (a b : Int) : a * IntKind.u64.wrap b % 18446744073709551616 = lo128 (a * b) := by
  rw [Int.mul_comm, Int.mul_comm a b]; exact pl_np b a
theorem lo128_range (x : Int) : 0 ≤ lo128 x ∧ lo128 x < 18446744073709551616 := by unfold lo128; omega
theorem mulq_product (a b q : Int) (h : q ≤ 62) : shiftq (hi128 (a * b)) (lo128 (a * b)) q = mulq a b q := by rw [shiftq_parts _ _ h]; rfl
theorem mulq_out (a b q : Int) (h : ¬ (0 ≤ q ∧ q ≤ 62)) : mulq a b q = 0 := by unfold mulq; rw [if_neg h]
theorem mulq_range (a b q : Int) : -9223372036854775808 ≤ mulq a b q ∧ mulq a b q ≤ 9223372036854775807 := by
  unfold mulq; split
  · exact ⟨wrap64_lo _, wrap64_hi _⟩
  · omega
def gateq (a g : Int) : Int := if 0 < a then g else 0
theorem gateq_pos {a g : Int} (h : 0 < a) : gateq a g = g := by unfold gateq; rw [if_pos h]
theorem gateq_neg {a g : Int} (h : a ≤ 0) : gateq a g = 0 := by unfold gateq; rw [if_neg (by omega)]
theorem gateq_range {a g : Int} (h0 : -9223372036854775808 ≤ g) (h1 : g ≤ 9223372036854775807) : -9223372036854775808 ≤ gateq a g ∧ gateq a g ≤ 9223372036854775807 := by unfold gateq; split <;> omega
theorem oneq_out (q : Int) (h : ¬ (0 ≤ q ∧ q ≤ 62)) : oneq q = 0 := by unfold oneq; rw [if_neg h]
theorem oneq_in (q : Int) (h0 : 0 ≤ q) (h1 : q ≤ 62) : oneq q = 2 ^ q.toNat := by unfold oneq; rw [if_pos ⟨h0, h1⟩]
theorem pow_le62 (n : Nat) (h : n ≤ 62) : 1 ≤ (2 : Int) ^ n ∧ (2 : Int) ^ n ≤ 4611686018427387904 := by
  have h1 : (2 : Nat) ^ n ≤ 2 ^ 62 := Nat.pow_le_pow_right (by decide) h
  have h2 : 1 ≤ (2 : Nat) ^ n := Nat.one_le_two_pow
  have e : (2 : Int) ^ n = ((2 ^ n : Nat) : Int) := by simp
  rw [e]; omega
theorem oneq_range (q : Int) : 0 ≤ oneq q ∧ oneq q ≤ 4611686018427387904 := by
  unfold oneq; split
  · have := pow_le62 q.toNat (by omega); omega
  · omega
end Go.Proofs.YtcnabebcckbfkaaDoor
