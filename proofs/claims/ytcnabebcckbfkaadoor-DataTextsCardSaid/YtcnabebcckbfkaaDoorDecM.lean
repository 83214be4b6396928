/- Layer 2: the decimal digits of binary fractions, as lists. -/
import Derived.Lib.ItoaNum
namespace Go.Proofs.YtcnabebcckbfkaaDoor
set_option linter.unusedVariables false
/-- the digits of p/2^k, at most f of them -/
def fracD : Nat → Nat → Nat → List Nat
  | 0, _, _ => []
  | f + 1, k, p => if p = 0 then [] else (10 * p / 2 ^ k) :: fracD f k (10 * p % 2 ^ k)
theorem fracD_succ (f k p : Nat) : fracD (f + 1) k p = if p = 0 then [] else (10 * p / 2 ^ k) :: fracD f k (10 * p % 2 ^ k) := rfl
theorem pow_pos2 (k : Nat) : 0 < 2 ^ k := Nat.pow_pos (by decide)
theorem dvd_step {k f p : Nat} (h : 2 ^ k ∣ 2 ^ (f + 1) * p) : 2 ^ k ∣ 2 ^ f * (10 * p % 2 ^ k) := by
  have e : 2 ^ f * (10 * p) = 5 * (2 ^ (f + 1) * p) := by rw [Nat.pow_succ]; grind
  have h1 : 2 ^ k ∣ 2 ^ f * (10 * p) := by rw [e]; exact Nat.dvd_trans h (Nat.dvd_mul_left _ _)
  have h2 := Nat.div_add_mod (10 * p) (2 ^ k)
  have h3 : 2 ^ f * (10 * p) = 2 ^ k * (2 ^ f * (10 * p / 2 ^ k)) + 2 ^ f * (10 * p % 2 ^ k) := by
    conv => lhs; rw [← h2]
    rw [Nat.mul_add, Nat.mul_left_comm]
  rw [h3] at h1
  exact (Nat.dvd_add_right (Nat.dvd_mul_right _ _)).1 h1
theorem zero_of_dvd {k p : Nat} (h : 2 ^ k ∣ 2 ^ 0 * p) (hp : p < 2 ^ k) : p = 0 := by
  rw [Nat.pow_zero, Nat.one_mul] at h
  exact Nat.eq_zero_of_dvd_of_lt h hp
theorem fracD_fuel : ∀ (f k p : Nat), p < 2 ^ k → 2 ^ k ∣ 2 ^ f * p → fracD (f + 1) k p = fracD f k p
  | 0, k, p, hp, h => by
    have := zero_of_dvd h hp
    subst this
    rfl
  | f + 1, k, p, hp, h => by
    rw [fracD_succ (f + 1) k p, fracD_succ f k p]
    by_cases h0 : p = 0
    · rw [if_pos h0, if_pos h0]
    · rw [if_neg h0, if_neg h0, fracD_fuel f k _ (Nat.mod_lt _ (pow_pos2 k)) (dvd_step h)]
/-- the digits of p/2^k -/
def fracL (k p : Nat) : List Nat := fracD 64 k p
theorem dvd_big {k p : Nat} (hk : k ≤ 63) : 2 ^ k ∣ 2 ^ 63 * p := Nat.dvd_trans (Nat.pow_dvd_pow 2 hk) (Nat.dvd_mul_right _ _)
theorem fracL_zero (k : Nat) : fracL k 0 = [] := rfl
theorem fracL_succ {k p : Nat} (hk : k ≤ 63) (h0 : p ≠ 0) : fracL k p = (10 * p / 2 ^ k) :: fracL k (10 * p % 2 ^ k) := by
  unfold fracL
  rw [fracD, if_neg h0, ← fracD_fuel 63 k _ (Nat.mod_lt _ (pow_pos2 k)) (dvd_big hk)]
theorem fracD_digit : ∀ (f k p : Nat), p < 2 ^ k → ∀ d ∈ fracD f k p, d < 10
  | 0, _, _, _ => by intro d h; cases h
  | f + 1, k, p, hp => by
    intro d h
    rw [fracD] at h
    by_cases h0 : p = 0
    · rw [if_pos h0] at h; cases h
    · rw [if_neg h0] at h
      rcases List.mem_cons.1 h with rfl | h
      · rw [Nat.div_lt_iff_lt_mul (pow_pos2 k)]
        exact Nat.mul_lt_mul_of_pos_left hp (by decide)
      · exact fracD_digit f k _ (Nat.mod_lt _ (pow_pos2 k)) d h
theorem fracL_digit {k p : Nat} (hp : p < 2 ^ k) : ∀ d ∈ fracL k p, d < 10 := fracD_digit 64 k p hp
/-- the number with some digits -/
def valD : List Nat → Nat
  | [] => 0
  | d :: ds => d * 10 ^ ds.length + valD ds
theorem valD_lt : ∀ (ds : List Nat), (∀ d ∈ ds, d < 10) → valD ds < 10 ^ ds.length
  | [], _ => by decide
  | d :: ds, h => by
    have h1 := valD_lt ds (fun x hx => h x (by simp [hx]))
    have h2 := h d (by simp)
    rw [valD, List.length_cons, Nat.pow_succ]
    have : d * 10 ^ ds.length ≤ 9 * 10 ^ ds.length := Nat.mul_le_mul_right _ (by omega)
    omega
theorem valD_snoc : ∀ (ds : List Nat) (d : Nat), valD (ds ++ [d]) = 10 * valD ds + d
  | [], d => by simp [valD]
  | e :: ds, d => by
    rw [List.cons_append, valD, valD, valD_snoc ds d, List.length_append, List.length_singleton, Nat.pow_succ]
    have : e * (10 ^ ds.length * 10) = 10 * (e * 10 ^ ds.length) := by grind
    omega
theorem fracD_val : ∀ (f k p : Nat), p < 2 ^ k → 2 ^ k ∣ 2 ^ f * p → p * 10 ^ (fracD f k p).length = 2 ^ k * valD (fracD f k p)
  | 0, k, p, hp, h => by
    have := zero_of_dvd h hp
    subst this
    simp [fracD, valD]
  | f + 1, k, p, hp, h => by
    rw [fracD]
    by_cases h0 : p = 0
    · rw [if_pos h0, h0]; simp [valD]
    · rw [if_neg h0]
      have ih := fracD_val f k _ (Nat.mod_lt (10 * p) (pow_pos2 k)) (dvd_step h)
      have h2 := Nat.div_add_mod (10 * p) (2 ^ k)
      rw [List.length_cons, valD, Nat.pow_succ]
      generalize fracD f k (10 * p % 2 ^ k) = D at *
      generalize 10 * p / 2 ^ k = a at *
      generalize 10 * p % 2 ^ k = r at *
      generalize 10 ^ D.length = t at *
      generalize 2 ^ k = m at *
      rw [Nat.mul_add, ← ih]
      calc p * (t * 10) = (10 * p) * t := by rw [Nat.mul_comm t 10, ← Nat.mul_assoc, Nat.mul_comm p 10]
        _ = (m * a + r) * t := by rw [h2]
        _ = m * (a * t) + r * t := by rw [Nat.add_mul, Nat.mul_assoc]
theorem fracL_val {k p : Nat} (hk : k ≤ 63) (hp : p < 2 ^ k) : p * 10 ^ (fracL k p).length = 2 ^ k * valD (fracL k p) :=
  fracD_val 64 k p hp (Nat.dvd_trans (Nat.pow_dvd_pow 2 (show k ≤ 64 by omega)) (Nat.dvd_mul_right _ _))
/-- the digits of half a number, where something is carried in -/
def halfD : Nat → List Nat → List Nat
  | c, [] => if c = 0 then [] else [5]
  | c, d :: ds => ((10 * c + d) / 2) :: halfD ((10 * c + d) % 2) ds
theorem split_two (n m r : Nat) (hr : r < m) : (n * m + r) / (m * 2) = n / 2 ∧ (n * m + r) % (m * 2) = n % 2 * m + r := by
  have hn := Nat.div_add_mod n 2
  have hm : n % 2 < 2 := Nat.mod_lt _ (by decide)
  have e : n * m + r = (m * 2) * (n / 2) + (n % 2 * m + r) := by
    conv => lhs; rw [← hn]
    rw [Nat.add_mul, Nat.mul_comm (2 * (n / 2)) m, Nat.mul_assoc m 2, Nat.add_assoc]
  have hlt : n % 2 * m + r < m * 2 := by
    rcases (show n % 2 = 0 ∨ n % 2 = 1 by omega) with h | h <;> rw [h] <;> omega
  have hpos : 0 < m * 2 := by omega
  constructor
  · rw [e, Nat.mul_add_div hpos, Nat.div_eq_of_lt hlt, Nat.add_zero]
  · rw [e, Nat.mul_add_mod, Nat.mod_eq_of_lt hlt]
theorem halfD_frac : ∀ (f k c p : Nat), p < 2 ^ k → c ≤ 1 → 2 ^ k ∣ 2 ^ f * p → halfD c (fracD f k p) = fracD (f + 1) (k + 1) (c * 2 ^ k + p) := by
  have hend : ∀ (f k c : Nat), c ≤ 1 → halfD c [] = fracD (f + 1) (k + 1) (c * 2 ^ k + 0) := by
    intro f k c hc
    have h2 := pow_pos2 k
    rw [halfD, fracD]
    rcases (show c = 0 ∨ c = 1 by omega) with h | h
    · subst h; simp
    · subst h
      have hs := split_two 10 (2 ^ k) 0 h2
      have e : 10 * (1 * 2 ^ k + 0) = 10 * 2 ^ k + 0 := by omega
      have hf : fracD f (k + 1) 0 = [] := by cases f <;> rfl
      rw [if_neg (by decide), if_neg (by omega), e, Nat.pow_succ, hs.1, hs.2, show 10 % 2 * 2 ^ k + 0 = 0 by simp, hf]
  intro f
  induction f with
  | zero =>
    intro k c p hp hc h
    have := zero_of_dvd h hp
    subst this
    rw [fracD]
    exact hend 0 k c hc
  | succ f ih =>
    intro k c p hp hc h
    by_cases h0 : p = 0
    · subst h0
      have hf : fracD (f + 1) k 0 = [] := rfl
      rw [hf]
      exact hend (f + 1) k c hc
    · have h2 := pow_pos2 k
      have hne : ¬ c * 2 ^ k + p = 0 := by omega
      rw [fracD_succ f k p, if_neg h0, halfD, ih k _ _ (Nat.mod_lt _ h2) (by omega) (dvd_step h), fracD_succ (f + 1), if_neg hne]
      have hd := Nat.div_add_mod (10 * p) (2 ^ k)
      have e : 10 * (c * 2 ^ k + p) = (10 * c + 10 * p / 2 ^ k) * 2 ^ k + 10 * p % 2 ^ k := by
        rw [Nat.mul_add, Nat.add_mul, Nat.mul_comm (10 * p / 2 ^ k), Nat.add_assoc, hd, Nat.mul_assoc]
      have hs := split_two (10 * c + 10 * p / 2 ^ k) (2 ^ k) (10 * p % 2 ^ k) (Nat.mod_lt _ h2)
      rw [e, Nat.pow_succ, hs.1, hs.2]
theorem halfD_fracL {k c p : Nat} (hk : k ≤ 62) (hp : p < 2 ^ k) (hc : c ≤ 1) : halfD c (fracL k p) = fracL (k + 1) (c * 2 ^ k + p) := by
  unfold fracL
  have h2 := pow_pos2 k
  rw [halfD_frac 64 k c p hp hc (Nat.dvd_trans (Nat.pow_dvd_pow 2 (show k ≤ 64 by omega)) (Nat.dvd_mul_right _ _))]
  have hlt : c * 2 ^ k + p < 2 ^ (k + 1) := by
    rw [Nat.pow_succ]
    rcases (show c = 0 ∨ c = 1 by omega) with h | h <;> subst h <;> omega
  exact fracD_fuel 64 (k + 1) _ hlt (Nat.dvd_trans (Nat.pow_dvd_pow 2 (show k + 1 ≤ 64 by omega)) (Nat.dvd_mul_right _ _))
/-- twice a fraction with some digits: what is carried out, and the digits -/
def dblD : List Nat → Nat × List Nat
  | [] => (0, [])
  | d :: ds => ((2 * d + (dblD ds).1) / 10, (2 * d + (dblD ds).1) % 10 :: (dblD ds).2)
theorem dblD_length : ∀ ds : List Nat, (dblD ds).2.length = ds.length
  | [] => rfl
  | d :: ds => by simp [dblD, dblD_length ds]
theorem dblD_digit : ∀ ds : List Nat, ∀ d ∈ (dblD ds).2, d < 10
  | [] => by intro d h; cases h
  | d :: ds => by
    intro x h
    rw [dblD] at h
    rcases List.mem_cons.1 h with rfl | h
    · exact Nat.mod_lt _ (by decide)
    · exact dblD_digit ds x h
theorem dblD_carry : ∀ ds : List Nat, (∀ d ∈ ds, d < 10) → (dblD ds).1 ≤ 1
  | [], _ => Nat.zero_le _
  | d :: ds, h => by
    have := dblD_carry ds (fun x hx => h x (by simp [hx]))
    have h2 := h d (by simp)
    rw [dblD]
    show (2 * d + (dblD ds).1) / 10 ≤ 1
    omega
theorem dblD_val : ∀ ds : List Nat, 2 * valD ds = (dblD ds).1 * 10 ^ ds.length + valD (dblD ds).2
  | [] => rfl
  | d :: ds => by
    have ih := dblD_val ds
    have hd := Nat.div_add_mod (2 * d + (dblD ds).1) 10
    rw [dblD, valD, valD, dblD_length, List.length_cons, Nat.pow_succ]
    generalize 10 ^ ds.length = t at *
    generalize (dblD ds).1 = c at *
    generalize valD (dblD ds).2 = v at *
    generalize valD ds = u at *
    show 2 * (d * t + u) = (2 * d + c) / 10 * (t * 10) + ((2 * d + c) % 10 * t + v)
    have e : (2 * d + c) / 10 * (t * 10) + (2 * d + c) % 10 * t = (2 * d + c) * t := by
      conv => rhs; rw [← hd]
      rw [Nat.add_mul, Nat.mul_comm t 10, ← Nat.mul_assoc, Nat.mul_comm _ 10]
    rw [← Nat.add_assoc, e, Nat.mul_add, ih, Nat.add_mul, ← Nat.mul_assoc, Nat.add_assoc]
/-- the bits that come out where a fraction is doubled again and again -/
def bitsD : Nat → Nat → List Nat → Nat
  | 0, n, _ => n
  | q + 1, n, ds => bitsD q (2 * n + (dblD ds).1) (dblD ds).2
theorem bitsD_val : ∀ (q n : Nat) (ds : List Nat), (∀ d ∈ ds, d < 10) → bitsD q n ds = n * 2 ^ q + 2 ^ q * valD ds / 10 ^ ds.length
  | 0, n, ds, h => by
    rw [bitsD, Nat.pow_zero, Nat.mul_one, Nat.one_mul, Nat.div_eq_of_lt (valD_lt ds h), Nat.add_zero]
  | q + 1, n, ds, h => by
    have hp : 0 < 10 ^ ds.length := Nat.pow_pos (by decide)
    rw [bitsD, bitsD_val q _ _ (dblD_digit ds), dblD_length]
    have e : 2 ^ (q + 1) * valD ds = 10 ^ ds.length * (2 ^ q * (dblD ds).1) + 2 ^ q * valD (dblD ds).2 := by
      rw [Nat.pow_succ, Nat.mul_assoc, dblD_val, Nat.mul_add, Nat.mul_left_comm (10 ^ ds.length), Nat.mul_comm (10 ^ ds.length)]
    rw [e, Nat.mul_add_div hp, Nat.pow_succ, ← Nat.add_assoc]
    congr 1
    rw [Nat.add_mul, Nat.mul_comm (2 ^ q) (dblD ds).1, Nat.mul_comm (2 ^ q) 2, Nat.mul_comm 2 n, Nat.mul_assoc]
theorem bits_frac {k p n : Nat} (hk : k ≤ 63) (hp : p < 2 ^ k) : bitsD k n (fracL k p) = n * 2 ^ k + p := by
  rw [bitsD_val k n _ (fracL_digit hp), ← fracL_val hk hp, Nat.mul_div_cancel _ (Nat.pow_pos (by decide))]
end Go.Proofs.YtcnabebcckbfkaaDoor
