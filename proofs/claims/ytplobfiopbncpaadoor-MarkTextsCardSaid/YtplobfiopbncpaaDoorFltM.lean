/- Whole numbers as floats of 64 bits: sums and products of small ones are exact. -/
import Derived.Laws.ComplexArith
namespace Go.Proofs.YtplobfiopbncpaaDoor
open Ieee

/-- the float with the bits b is the whole number n (a zero has any sign) -/
def IsF (b : Nat) (n : Int) : Prop := ∃ (s : Bool) (k : Nat), double.read b = .number s (n.natAbs * 2 ^ k) (-(k : Int)) ∧ (n ≠ 0 → s = decide (n < 0))

theorem d_binade : double.binade = 4503599627370496 := by decide
theorem d_sign : double.signWeight = 9223372036854775808 := by decide
theorem d_inf : double.infRung = 9218868437227405312 := by decide
theorem d_least : double.leastPlace = -1074 := by decide

theorem log2_shift (N K : Nat) (h : N ≠ 0) : (N * 2 ^ K).log2 = N.log2 + K := by
  have hK := Nat.two_pow_pos K
  have h0 : N * 2 ^ K ≠ 0 := Nat.mul_ne_zero h (by omega)
  rw [Nat.log2_eq_iff h0]
  obtain ⟨h1, h2⟩ := (Nat.log2_eq_iff h).1 rfl
  constructor
  · rw [Nat.pow_add]; exact Nat.mul_le_mul_right _ h1
  · have e : 2 ^ (N.log2 + K + 1) = 2 ^ (N.log2 + 1) * 2 ^ K := by rw [← Nat.pow_add]; congr 1; omega
    rw [e]; exact Nat.mul_lt_mul_of_pos_right h2 hK

theorem cut_exact (way : Toward) (neg : Bool) (q drop : Nat) : way.cut neg (q * 2 ^ drop) drop = q := by
  have key : ∃ g, 1 <<< min drop ((q * 2 ^ drop).log2 + 2) = g ∧ 0 < g ∧ q * 2 ^ drop / g = q ∧ q * 2 ^ drop % g = 0 := by
    by_cases hq : q = 0
    · subst hq
      refine ⟨_, rfl, ?_, by simp, by simp⟩
      rw [Nat.one_shiftLeft]; exact Nat.two_pow_pos _
    · have hl := log2_shift q drop hq
      refine ⟨2 ^ drop, ?_, Nat.two_pow_pos _, Nat.mul_div_cancel _ (Nat.two_pow_pos _), Nat.mul_mod_left _ _⟩
      rw [hl, Nat.one_shiftLeft]; congr 1; omega
  obtain ⟨g, hg, h0, h1, h2⟩ := key
  unfold Toward.cut
  simp only [hg, h1, h2]
  have e1 : decide (g < 2 * 0) = false := by simp
  have e2 : (g == 2 * 0) = false := by simp; omega
  cases way <;> simp [e2] <;> omega

theorem read_normal (s : Bool) (e f : Nat) (he : 1 ≤ e) (he2 : e < 2047) (hf : f < 4503599627370496) :
    double.read (double.word s (e * 4503599627370496 + f)) = .number s (4503599627370496 + f) (-1074 + ((e - 1 : Nat) : Int)) := by
  have hr : e * 4503599627370496 + f < 9223372036854775808 := by omega
  have hw : double.word s (e * 4503599627370496 + f) / 9223372036854775808 % 2 = s.toNat ∧ double.word s (e * 4503599627370496 + f) % 9223372036854775808 = e * 4503599627370496 + f := by
    unfold Format.word
    rw [d_sign]
    cases s
    · simp only [Bool.false_eq_true, if_false, Bool.toNat_false]; omega
    · simp only [if_true, Bool.toNat_true]; omega
  unfold Format.read
  rw [d_sign, d_binade, d_inf, d_least, hw.1, hw.2]
  have c1 : ¬ e * 4503599627370496 + f < 4503599627370496 := by omega
  have c2 : e * 4503599627370496 + f < 9218868437227405312 := by omega
  have c3 : (e * 4503599627370496 + f) % 4503599627370496 = f := by omega
  have c4 : (e * 4503599627370496 + f) / 4503599627370496 = e := by omega
  simp only [c1, c2, c3, c4, if_true, if_false]
  cases s <;> simp

theorem nearest_exact (s : Bool) (N K : Nat) (hN : N < 9007199254740992) : ∃ k : Nat, double.read (double.nearest s (N * 2 ^ K) (-(K : Int))) = .number s (N * 2 ^ k) (-(k : Int)) := by
  by_cases h0 : N = 0
  · subst h0
    obtain ⟨k, hk⟩ : ∃ k : Nat, k = 1074 := ⟨_, rfl⟩
    refine ⟨k, ?_⟩
    unfold Format.nearest
    rw [if_pos (by omega), Nat.zero_mul, hk]
    cases s <;> rfl
  have hl := log2_shift N K h0
  obtain ⟨h1, h2⟩ := (Nat.log2_eq_iff h0).1 rfl
  generalize hL : N.log2 = L at *
  have hL52 : L ≤ 52 := by
    refine Classical.byContradiction fun hc => ?_
    have : 2 ^ 53 ≤ 2 ^ L := Nat.pow_le_pow_right (by omega) (by omega)
    omega
  have hm0 : N * 2 ^ K ≠ 0 := Nat.mul_ne_zero h0 (by have := Nat.two_pow_pos K; omega)
  have kept : Toward.even.cut s ((N * 2 ^ K) <<< (-(K : Int) - ((L : Int) - 52)).toNat) (((L : Int) - 52) - -(K : Int)).toNat = N * 2 ^ (52 - L) := by
    rcases Nat.le_total (K + L) 52 with hle | hge
    · have e1 : (-(K : Int) - ((L : Int) - 52)).toNat = 52 - L - K := by omega
      have e2 : (((L : Int) - 52) - -(K : Int)).toNat = 0 := by omega
      rw [e1, e2, Nat.shiftLeft_eq, Nat.mul_assoc, ← Nat.pow_add]
      have e3 : K + (52 - L - K) = 52 - L := by omega
      rw [e3]
      have := cut_exact .even s (N * 2 ^ (52 - L)) 0
      rwa [Nat.pow_zero, Nat.mul_one] at this
    · have e1 : (-(K : Int) - ((L : Int) - 52)).toNat = 0 := by omega
      have e2 : (((L : Int) - 52) - -(K : Int)).toNat = K + L - 52 := by omega
      rw [e1, e2, Nat.shiftLeft_eq, Nat.pow_zero, Nat.mul_one]
      have e3 : N * 2 ^ K = N * 2 ^ (52 - L) * 2 ^ (K + L - 52) := by
        rw [Nat.mul_assoc, ← Nat.pow_add]; congr 2; omega
      rw [e3]
      exact cut_exact .even s _ _
  have hlo : 4503599627370496 ≤ N * 2 ^ (52 - L) := by
    have e : 4503599627370496 = 2 ^ L * 2 ^ (52 - L) := by
      rw [← Nat.pow_add]
      have : L + (52 - L) = 52 := by omega
      rw [this]
    rw [e]; exact Nat.mul_le_mul_right _ h1
  have hhi : N * 2 ^ (52 - L) < 9007199254740992 := by
    have e : 9007199254740992 = 2 ^ (L + 1) * 2 ^ (52 - L) := by
      rw [← Nat.pow_add]
      have : L + 1 + (52 - L) = 53 := by omega
      rw [this]
    rw [e]; exact Nat.mul_lt_mul_of_pos_right h2 (Nat.two_pow_pos _)
  refine ⟨52 - L, ?_⟩
  unfold Format.nearest
  rw [if_neg hm0]
  have hlast : max (-(K : Int) + ((N * 2 ^ K).log2 : Int) - (double.fractionBits : Int)) double.leastPlace = (L : Int) - 52 := by
    rw [hl, d_least]
    have : (double.fractionBits : Int) = 52 := rfl
    rw [this]
    omega
  simp only [hlast, kept]
  rw [d_least, d_binade, d_inf]
  generalize hM : N * 2 ^ (52 - L) = M at *
  have e4 : ((L : Int) - 52 - -1074).toNat = L + 1022 := by omega
  have e5 : min ((L + 1022) * 4503599627370496 + M) 9218868437227405312 = (L + 1023) * 4503599627370496 + (M - 4503599627370496) := by
    have g1 : (L + 1023) * 4503599627370496 = (L + 1022) * 4503599627370496 + 4503599627370496 := Nat.succ_mul _ _
    have g2 : (L + 1022) * 4503599627370496 ≤ 1074 * 4503599627370496 := Nat.mul_le_mul_right _ (by omega)
    have aux : ∀ X : Nat, X ≤ 1074 * 4503599627370496 → min (X + M) 9218868437227405312 = X + 4503599627370496 + (M - 4503599627370496) := by
      intro X hX
      rw [Nat.min_eq_left (by omega)]
      omega
    rw [g1]
    exact aux _ g2
  rw [e4, e5, read_normal s (L + 1023) (M - 4503599627370496) (by omega) (by omega) (by omega)]
  have e6 : 4503599627370496 + (M - 4503599627370496) = M := by omega
  have e7 : (-1074 + ((L + 1023 - 1 : Nat) : Int)) = -((52 - L : Nat) : Int) := by omega
  rw [e6, e7]

theorem write_exact (s : Bool) (n : Int) (K : Nat) (hn : n.natAbs < 9007199254740992) (hs : n ≠ 0 → s = decide (n < 0)) : IsF (double.write (.number s (n.natAbs * 2 ^ K) (-(K : Int)))) n := by
  obtain ⟨k, hk⟩ := nearest_exact s n.natAbs K hn
  exact ⟨s, k, hk, hs⟩

theorem signed_shift (s : Bool) (n : Int) (k d : Nat) (hs : n ≠ 0 → s = decide (n < 0)) : signed s (n.natAbs * 2 ^ k) d = n * (2 ^ (k + d) : Nat) := by
  unfold signed
  rw [Nat.shiftLeft_eq, Nat.mul_assoc, ← Nat.pow_add]
  generalize 2 ^ (k + d) = p
  by_cases h0 : n = 0
  · subst h0; cases s <;> simp
  · rw [hs h0]
    rcases (show n < 0 ∨ n ≥ 0 by omega) with h | h
    · rw [decide_eq_true h, if_pos rfl]
      have : (n.natAbs : Int) = -n := by omega
      rw [Int.natCast_mul, this, Int.neg_mul, Int.neg_neg]
    · rw [decide_eq_false (by omega)]
      have : (n.natAbs : Int) = n := by omega
      rw [if_neg (by simp), Int.natCast_mul, this]

theorem sum_isF {s t : Bool} {a b : Int} {k l : Nat} (hs : a ≠ 0 → s = decide (a < 0)) (ht : b ≠ 0 → t = decide (b < 0)) (hc : (a + b).natAbs < 9007199254740992) :
    ∃ d, Datum.sum (.number s (a.natAbs * 2 ^ k) (-(k : Int))) (.number t (b.natAbs * 2 ^ l) (-(l : Int))) = some d ∧ IsF (double.write d) (a + b) := by
  refine ⟨_, rfl, ?_⟩
  have hb : min (-(k : Int)) (-(l : Int)) = -((max k l : Nat) : Int) := by omega
  have e1 : (-(k : Int) - -((max k l : Nat) : Int)).toNat = max k l - k := by omega
  have e2 : (-(l : Int) - -((max k l : Nat) : Int)).toNat = max k l - l := by omega
  rw [hb, e1, e2, signed_shift s a k _ hs, signed_shift t b l _ ht]
  have e3 : k + (max k l - k) = max k l := by omega
  have e4 : l + (max k l - l) = max k l := by omega
  rw [e3, e4, ← Int.add_mul, Int.natAbs_mul, Int.natAbs_natCast]
  refine write_exact _ _ _ hc fun hne => ?_
  have hp : (0 : Int) < ((2 ^ max k l : Nat) : Int) := by have := Nat.two_pow_pos (max k l); omega
  have hne2 : (a + b) * ((2 ^ max k l : Nat) : Int) ≠ 0 := Int.mul_ne_zero hne (by omega)
  rw [if_neg hne2]
  rcases (show a + b < 0 ∨ a + b ≥ 0 by omega) with h | h
  · rw [decide_eq_true h, decide_eq_true (Int.mul_neg_of_neg_of_pos h hp)]
  · rw [decide_eq_false (by omega : ¬ a + b < 0), decide_eq_false (Int.not_lt.2 (Int.mul_nonneg h (Int.le_of_lt hp)))]

theorem add_isF {x y : Nat} {a b : Int} (hx : IsF x a) (hy : IsF y b) (hc : (a + b).natAbs < 9007199254740992) : ∃ r, floatBits .add .f64 x y = some r ∧ IsF r (a + b) := by
  obtain ⟨s, k, hk, hs⟩ := hx
  obtain ⟨t, l, hl, ht⟩ := hy
  obtain ⟨d, hd, hw⟩ := sum_isF (k := k) (l := l) hs ht hc
  refine ⟨double.write d, ?_, hw⟩
  show ((double.read x).sum (double.read y)).map double.write = _
  rw [hk, hl, hd]; rfl

theorem sub_isF {x y : Nat} {a b : Int} (hx : IsF x a) (hy : IsF y b) (hc : (a - b).natAbs < 9007199254740992) : ∃ r, floatBits .sub .f64 x y = some r ∧ IsF r (a - b) := by
  obtain ⟨s, k, hk, hs⟩ := hx
  obtain ⟨t, l, hl, ht⟩ := hy
  have ht' : -b ≠ 0 → (!t) = decide (-b < 0) := by
    intro h
    rw [ht (by omega)]
    rcases (show b < 0 ∨ b ≥ 0 by omega) with h1 | h1
    · rw [decide_eq_true h1, decide_eq_false (by omega)]; rfl
    · rw [decide_eq_false (by omega), decide_eq_true (by omega)]; rfl
  obtain ⟨d, hd, hw⟩ := sum_isF (b := -b) (k := k) (l := l) hs ht' (by rwa [← Int.sub_eq_add_neg])
  rw [← Int.sub_eq_add_neg] at hw
  refine ⟨double.write d, ?_, hw⟩
  show ((double.read x).sum (double.read y).opposite).map double.write = _
  rw [hk, hl]
  rw [Int.natAbs_neg] at hd
  show (Datum.sum _ (.number (!t) _ _)).map _ = _
  rw [hd]; rfl

theorem mul_isF {x y : Nat} {a b : Int} (hx : IsF x a) (hy : IsF y b) (hc : (a * b).natAbs < 9007199254740992) : ∃ r, floatBits .mul .f64 x y = some r ∧ IsF r (a * b) := by
  obtain ⟨s, k, hk, hs⟩ := hx
  obtain ⟨t, l, hl, ht⟩ := hy
  refine ⟨double.write (.number (s ^^ t) ((a * b).natAbs * 2 ^ (k + l)) (-((k + l : Nat) : Int))), ?_, ?_⟩
  · show ((double.read x).product (double.read y)).map double.write = _
    rw [hk, hl]
    show some _ = some _
    have e1 : a.natAbs * 2 ^ k * (b.natAbs * 2 ^ l) = (a * b).natAbs * 2 ^ (k + l) := by
      rw [Int.natAbs_mul, Nat.pow_add, Nat.mul_assoc, Nat.mul_left_comm (2 ^ k), ← Nat.mul_assoc]
    have e2 : -(k : Int) + -(l : Int) = -((k + l : Nat) : Int) := by omega
    rw [e1, e2]
  · refine write_exact _ _ _ hc fun hne => ?_
    have ha : a ≠ 0 := fun h => hne (by rw [h, Int.zero_mul])
    have hb : b ≠ 0 := fun h => hne (by rw [h, Int.mul_zero])
    rw [hs ha, ht hb]
    rcases (show a < 0 ∨ a ≥ 0 by omega) with h | h <;> rcases (show b < 0 ∨ b ≥ 0 by omega) with h' | h'
    · rw [decide_eq_true h, decide_eq_true h', decide_eq_false (Int.not_lt.2 (Int.le_of_lt (Int.mul_pos_of_neg_of_neg h h')))]; rfl
    · rw [decide_eq_true h, decide_eq_false (by omega : ¬ b < 0), decide_eq_true (Int.mul_neg_of_neg_of_pos h (by omega))]; rfl
    · rw [decide_eq_false (by omega : ¬ a < 0), decide_eq_true h', decide_eq_true (Int.mul_neg_of_pos_of_neg (by omega) h')]; rfl
    · rw [decide_eq_false (by omega : ¬ a < 0), decide_eq_false (by omega : ¬ b < 0), decide_eq_false (Int.not_lt.2 (Int.mul_nonneg h h'))]; rfl

theorem ofInt_isF (n : Int) (hn : n.natAbs < 9007199254740992) : IsF (floatOfInt .f64 n) n := by
  have h := write_exact (decide (n < 0)) n 0 hn (fun _ => rfl)
  rw [Nat.pow_zero, Nat.mul_one] at h
  exact h

theorem order_isF {x y : Nat} {a b : Int} (hx : IsF x a) (hy : IsF y b) : double.order x y = some (compare a b) := by
  obtain ⟨s, k, hk, hs⟩ := hx
  obtain ⟨t, l, hl, ht⟩ := hy
  unfold Format.order
  rw [hk, hl]
  show some (compare (signed s _ _) (signed t _ _)) = _
  have hb : min (-(k : Int)) (-(l : Int)) = -((max k l : Nat) : Int) := by omega
  have e1 : (-(k : Int) - -((max k l : Nat) : Int)).toNat = max k l - k := by omega
  have e2 : (-(l : Int) - -((max k l : Nat) : Int)).toNat = max k l - l := by omega
  rw [hb, e1, e2, signed_shift s a k _ hs, signed_shift t b l _ ht]
  have e3 : k + (max k l - k) = max k l := by omega
  have e4 : l + (max k l - l) = max k l := by omega
  rw [e3, e4]
  have hp : (0 : Int) < ((2 ^ max k l : Nat) : Int) := by have := Nat.two_pow_pos (max k l); omega
  generalize ((2 ^ max k l : Nat) : Int) = p at hp
  congr 1
  rcases Int.lt_trichotomy a b with h | h | h
  · have h1 : a * p < b * p := Int.mul_lt_mul_of_pos_right h hp
    rw [Int.compare_eq_lt.2 h, Int.compare_eq_lt.2 h1]
  · subst h; rw [Int.compare_eq_eq.2 rfl, Int.compare_eq_eq.2 rfl]
  · have h1 : b * p < a * p := Int.mul_lt_mul_of_pos_right h hp
    rw [Int.compare_eq_gt.2 h, Int.compare_eq_gt.2 h1]

theorem toInt_isF {x : Nat} {a : Int} (hx : IsF x a) : (double.read x).toInt .zero = some a := by
  obtain ⟨s, k, hk, hs⟩ := hx
  rw [hk]
  unfold Datum.toInt Datum.integral
  have e1 : (-(k : Int)).toNat = 0 := by omega
  have e2 : (- -(k : Int)).toNat = k := by omega
  simp only [e1, e2, Nat.shiftLeft_eq, Nat.pow_zero, Nat.mul_one, cut_exact]
  have := signed_shift s a 0 0 hs
  simpa using this
end Go.Proofs.YtplobfiopbncpaaDoor
