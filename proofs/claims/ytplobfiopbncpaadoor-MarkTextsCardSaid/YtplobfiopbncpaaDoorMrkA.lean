/- Layer 16: Unit, Low, Turn, Join. -/
import Derived.Test.YtplobfiopbncpaaDoorFltM
import Derived.Test.YtplobfiopbncpaaDoorDecF
import Derived.Test.YtplobfiopbncpaaDoorAppL
namespace Go.Proofs.YtplobfiopbncpaaDoor
open Go.RowKit
set_option linter.unusedVariables false
section
variable {P : Program} (w : World) (a : Addr) (m : Mode)
theorem run_store_complex (k : FloatKind) (x y : Nat) : (store a (.complex k x y) m).run P w = stored P w a (.complex k x y) m := run_store P w a _ m rfl
end
attribute [local go_sem] run_store_complex
theorem isF0 : IsF 0 0 := by
  have h := ofInt_isF 0 (by decide)
  rwa [show floatOfInt .f64 0 = 0 by kernel_rfl] at h
theorem isF1 : IsF 4607182418800017408 1 := by
  have h := ofInt_isF 1 (by decide)
  rwa [show floatOfInt .f64 1 = 4607182418800017408 by kernel_rfl] at h
theorem isFm1 : IsF 13830554455654793216 (-1) := by
  have h := ofInt_isF (-1) (by decide)
  rwa [show floatOfInt .f64 (-1) = 13830554455654793216 by kernel_rfl] at h
theorem isFm2 : IsF 13835058055282163712 (-2) := by
  have h := ofInt_isF (-2) (by decide)
  rwa [show floatOfInt .f64 (-2) = 13835058055282163712 by kernel_rfl] at h
/-- the parts of a power of the imaginary unit -/
def powR (n : Int) : Int := if n % 4 = 0 then 1 else if n % 4 = 2 then -1 else 0
def powI (n : Int) : Int := if n % 4 = 1 then 1 else if n % 4 = 3 then -1 else 0
theorem powR_le (n : Int) : (powR n).natAbs ≤ 1 := by unfold powR; split; decide; split <;> decide
theorem powI_le (n : Int) : (powI n).natAbs ≤ 1 := by unfold powI; split; decide; split <;> decide
theorem and3 (n : Int) (h0 : -9223372036854775808 ≤ n) (h1 : n ≤ 9223372036854775807) : bits .and .i64 n 3 = n % 4 := by
  show IntKind.i64.wrap ((BitVec.ofInt 64 n &&& BitVec.ofInt 64 3).toNat : Int) = _
  have h2 : (BitVec.ofInt 64 3).toNat = 2 ^ 2 - 1 := by decide
  rw [BitVec.toNat_and, h2, Nat.and_two_pow_sub_one_eq_mod, BitVec.toNat_ofInt]
  have e : (((n % ((2 ^ 64 : Nat) : Int)).toNat % 2 ^ 2 : Nat) : Int) = n % 4 := by
    have : ((2 ^ 64 : Nat) : Int) = 18446744073709551616 := by decide
    rw [this]
    omega
  rw [e, IntKind.wrap_i64]
  omega
theorem unit_any (n : Int) (hn : -9223372036854775808 ≤ n ∧ n ≤ 9223372036854775807) (w : World) :
    Calls Tryd.prog 16 #[.int .i64 n] w fun e w' => (∃ re im, e = .returned (.complex .f64 re im) ∧ IsF re (powR n) ∧ IsF im (powI n)) ∧ Below w.heap.size w w' := by
  have m := and3 n hn.1 hn.2
  rcases (show n % 4 = 0 ∨ n % 4 = 1 ∨ n % 4 = 2 ∨ n % 4 = 3 by omega) with hk | hk | hk | hk
  · have r : powR n = 1 := by simp [powR, hk]
    have i : powI n = 0 := by simp [powI, hk]
    rw [r, i]
    rw [hk] at m
    go_enter Tryd.func16, Tryd.ntmps16
    go_wp2_with fail
    go_ret
    exact ⟨⟨_, _, rfl, isF1, isF0⟩, below_alloc (Below.refl _ _)⟩
  · have r : powR n = 0 := by simp [powR, hk]
    have i : powI n = 1 := by simp [powI, hk]
    rw [r, i]
    rw [hk] at m
    go_enter Tryd.func16, Tryd.ntmps16
    go_wp2_with fail
    go_ret
    exact ⟨⟨_, _, rfl, isF0, isF1⟩, below_alloc (Below.refl _ _)⟩
  · have r : powR n = -1 := by simp [powR, hk]
    have i : powI n = 0 := by simp [powI, hk]
    rw [r, i]
    rw [hk] at m
    go_enter Tryd.func16, Tryd.ntmps16
    go_wp2_with fail
    go_ret
    exact ⟨⟨_, _, rfl, isFm1, isF0⟩, below_alloc (Below.refl _ _)⟩
  · have r : powR n = 0 := by simp [powR, hk]
    have i : powI n = -1 := by simp [powI, hk]
    rw [r, i]
    rw [hk] at m
    go_enter Tryd.func16, Tryd.ntmps16
    go_wp2_with fail
    go_ret
    exact ⟨⟨_, _, rfl, isF0, isFm1⟩, below_alloc (Below.refl _ _)⟩
/-- the lowest 16 bits, with their sign -/
def lowI (x : Int) : Int := (x + 32768) % 65536 - 32768
theorem lowI_le (x : Int) : -32768 ≤ lowI x ∧ lowI x ≤ 32767 := by unfold lowI; omega
theorem low_any (x : Int) (w : World) : Calls Tryd.prog 13 #[.int .i64 x] w fun e w' => e = .returned (.int .i64 (lowI x)) ∧ Below w.heap.size w w' := by
  have h1 := lowI_le x
  have h2 : IntKind.i16.wrap x = lowI x := by
    unfold lowI
    simp [IntKind.wrap, IntKind.bits, IntKind.signed]
    split <;> omega
  generalize lowI x = y at *
  go_enter Tryd.func13, Tryd.ntmps13
  go_wp2_with fail
  go_ret
  exact ⟨rfl, Below.refl _ _⟩
/-- the product of two complex numbers, the second a unit -/
theorem cmul_isF {a b c d : Nat} {x y u v : Int} (ha : IsF a x) (hb : IsF b y) (hc : IsF c u) (hd : IsF d v) (hx : x.natAbs ≤ 2251799813685248) (hy : y.natAbs ≤ 2251799813685248) (hu : u.natAbs ≤ 1) (hv : v.natAbs ≤ 1) :
    ∃ re im, cMulBits a b c d = some (re, im) ∧ IsF re (x * u - y * v) ∧ IsF im (x * v + y * u) := by
  have bnd : ∀ p q : Int, p.natAbs ≤ 2251799813685248 → q.natAbs ≤ 1 → (p * q).natAbs ≤ 2251799813685248 := by
    intro p q hp hq
    rw [Int.natAbs_mul]
    exact Nat.le_trans (Nat.mul_le_mul_left _ hq) (by omega)
  have b1 := bnd x u hx hu
  have b2 := bnd y v hy hv
  have b3 := bnd x v hx hv
  have b4 := bnd y u hy hu
  obtain ⟨r1, e1, f1⟩ := mul_isF ha hc (by omega)
  obtain ⟨r2, e2, f2⟩ := mul_isF hb hd (by omega)
  obtain ⟨r3, e3, f3⟩ := sub_isF f1 f2 (by omega)
  obtain ⟨r4, e4, f4⟩ := mul_isF ha hd (by omega)
  obtain ⟨r5, e5, f5⟩ := mul_isF hb hc (by omega)
  obtain ⟨r6, e6, f6⟩ := add_isF f4 f5 (by omega)
  refine ⟨r3, r6, ?_, f3, f6⟩
  unfold cMulBits
  simp [e1, e2, e3, e4, e5, e6]
theorem csum_isF {a b c d : Nat} {x y u v : Int} (ha : IsF a x) (hb : IsF b y) (hc : IsF c u) (hd : IsF d v) (h1 : (x + u).natAbs < 9007199254740992) (h2 : (y + v).natAbs < 9007199254740992) :
    ∃ re im, cSumBits .add .f64 a b c d = some (re, im) ∧ IsF re (x + u) ∧ IsF im (y + v) := by
  obtain ⟨r1, e1, f1⟩ := add_isF ha hc h1
  obtain ⟨r2, e2, f2⟩ := add_isF hb hd h2
  refine ⟨r1, r2, ?_, f1, f2⟩
  unfold cSumBits
  simp [e1, e2]
/-- the parts of a product with a power of the imaginary unit -/
def trnR (x y n : Int) : Int := x * powR n - y * powI n
def trnI (x y n : Int) : Int := x * powI n + y * powR n
theorem turn_any (re im : Nat) (x y n : Int) (hr : IsF re x) (hi : IsF im y) (hx : x.natAbs ≤ 2251799813685248) (hy : y.natAbs ≤ 2251799813685248) (hn : -9223372036854775808 ≤ n ∧ n ≤ 9223372036854775807) (w : World) :
    Calls Tryd.prog 18 #[.complex .f64 re im, .int .i64 n] w fun e w' => (∃ a b, e = .returned (.complex .f64 a b) ∧ IsF a (trnR x y n) ∧ IsF b (trnI x y n)) ∧ Below w.heap.size w w' := by
  go_enter Tryd.func18, Tryd.ntmps18
  go_wp2_with fail
  refine (unit_any n hn _).mono ?_
  rintro e w1 ⟨⟨c, d, rfl, hc, hd⟩, b1⟩
  obtain ⟨a, b, hab, fa, fb⟩ := cmul_isF hr hi hc hd hx hy (powR_le n) (powI_le n)
  have hm : ∀ W, (binOp .mul 24 (.complex .f64 re im) (.complex .f64 c d)).run Tryd.prog W = .ok (.complex .f64 a b) W := fun W => run_complex_mul W 24 _ _ _ _ _ _ hab
  go_wp2_with fail
  go_ret
  exact ⟨⟨a, b, rfl, fa, fb⟩, b1⟩
theorem join_any (re im re2 im2 : Nat) (x y x2 y2 n : Int) (hr : IsF re x) (hi : IsF im y) (hr2 : IsF re2 x2) (hi2 : IsF im2 y2) (hx : x.natAbs ≤ 1125899906842624) (hy : y.natAbs ≤ 1125899906842624) (hx2 : x2.natAbs ≤ 1125899906842624) (hy2 : y2.natAbs ≤ 1125899906842624) (hn : -9223372036854775808 ≤ n ∧ n ≤ 9223372036854775807) (w : World) :
    Calls Tryd.prog 21 #[.complex .f64 re im, .int .i64 n, .complex .f64 re2 im2] w fun e w' => (∃ a b, e = .returned (.complex .f64 a b) ∧ IsF a (x + trnR x2 y2 n) ∧ IsF b (y + trnI x2 y2 n)) ∧ Below w.heap.size w w' := by
  go_enter Tryd.func21, Tryd.ntmps21
  go_wp2_with fail
  refine (turn_any re2 im2 x2 y2 n hr2 hi2 (by omega) (by omega) hn _).mono ?_
  rintro e w1 ⟨⟨c, d, rfl, hc, hd⟩, b1⟩
  have bnd : ∀ p q : Int, p.natAbs ≤ 1125899906842624 → q.natAbs ≤ 1 → (p * q).natAbs ≤ 1125899906842624 := by
    intro p q hp hq
    rw [Int.natAbs_mul]
    exact Nat.le_trans (Nat.mul_le_mul_left _ hq) (by omega)
  have k1 := bnd x2 _ hx2 (powR_le n)
  have k2 := bnd y2 _ hy2 (powI_le n)
  have k3 := bnd x2 _ hx2 (powI_le n)
  have k4 := bnd y2 _ hy2 (powR_le n)
  have g1 : (x + trnR x2 y2 n).natAbs < 9007199254740992 := by unfold trnR; omega
  have g2 : (y + trnI x2 y2 n).natAbs < 9007199254740992 := by unfold trnI; omega
  obtain ⟨a, b, hab, fa, fb⟩ := csum_isF hr hi hc hd g1 g2
  have hm : ∀ W, (binOp .add 24 (.complex .f64 re im) (.complex .f64 c d)).run Tryd.prog W = .ok (.complex .f64 a b) W := fun W => run_complex_sum W .add (.inl rfl) 24 .f64 _ _ _ _ _ _ hab
  clear k1 k2 k3 k4 g1 g2 bnd
  go_wp2_with fail
  go_ret
  exact ⟨⟨a, b, rfl, fa, fb⟩, b1⟩
end Go.Proofs.YtplobfiopbncpaaDoor
