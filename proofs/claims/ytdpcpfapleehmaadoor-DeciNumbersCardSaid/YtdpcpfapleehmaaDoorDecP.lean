/- Layer 2: Whole and Part; the walk of DeciParts. -/
import Derived.Test.YtdpcpfapleehmaaDoorDecT
namespace Go.Proofs.YtdpcpfapleehmaaDoor
open Go.RowKit
set_option linter.unusedVariables false
def wholeQ (x q : Int) : Int := if inQ q then x / 2 ^ q.toNat else 0
def partQ (x q : Int) : Int := if inQ q then x % 2 ^ q.toNat else 0
theorem inQ_nat {q : Int} (h : inQ q = true) : ∃ k : Nat, q = k ∧ k ≤ 62 := by
  unfold inQ at h
  have h' : 0 ≤ q ∧ q ≤ 62 := by simpa using h
  exact ⟨q.toNat, by omega, by omega⟩
theorem pow_int (k : Nat) (hk : k ≤ 62) : (2 : Int) ^ k = ((2 ^ k : Nat) : Int) ∧ 1 ≤ (2 : Int) ^ k ∧ (2 : Int) ^ k ≤ 4611686018427387904 := by
  have e : (2 : Int) ^ k = ((2 ^ k : Nat) : Int) := by rw [Int.natCast_pow]; rfl
  have h1 : (2 : Nat) ^ k ≤ 2 ^ 62 := Nat.pow_le_pow_right (by decide) hk
  have h2 := pow_pos2 k
  have h3 : (2 : Nat) ^ 62 = 4611686018427387904 := by decide
  omega
theorem whole_any (x q : Int) (w : World) : Calls Tryd.prog 13 #[.int .i64 x, .int .i64 q] w fun e w' => e = .returned (.int .i64 (wholeQ x q)) ∧ w = w' := by
  have HR := Lib.hid (fun W => right2_any q W)
  cases hq : inQ q
  · have H := Lib.hid (show wholeQ x q = 0 by unfold wholeQ; rw [hq]; rfl)
    rw [hq] at HR
    clear hq
    go_enter Tryd.func13, Tryd.ntmps13
    go_wp2_with fail
    refine (HR.out _).mono ?_
    rintro e w' ⟨rfl, rfl⟩
    go_wp2_with fail
    go_ret
    exact ⟨by rw [H.out]; rfl, rfl⟩
  · obtain ⟨k, rfl, hk⟩ := inQ_nat hq
    have H := Lib.hid (show wholeQ x k = x / 2 ^ k by unfold wholeQ; rw [hq, if_pos rfl, Int.toNat_natCast])
    rw [hq] at HR
    clear hq
    go_enter Tryd.func13, Tryd.ntmps13
    go_wp2_with fail
    refine (HR.out _).mono ?_
    rintro e w' ⟨rfl, rfl⟩
    go_wp2_with fail
    go_ret
    exact ⟨by rw [H.out]; rfl, rfl⟩
theorem refWhole_any (x q : Int) (w : World) : Calls Tryd.prog 15 #[.int .i64 x, .int .i64 q] w fun e w' => e = .returned (.int .i64 (wholeQ x q)) ∧ w = w' := by
  cases hq : inQ q
  · have H := Lib.hid (show wholeQ x q = 0 by unfold wholeQ; rw [hq]; rfl)
    have hq' : q < 0 ∨ ¬ q < 0 ∧ 62 < q := by unfold inQ at hq; simp at hq; omega
    clear hq
    rcases hq' with h | ⟨h, h2⟩
    all_goals
      go_enter Tryd.func15, Tryd.ntmps15
      go_wp2_with fail
      go_ret
      exact ⟨by rw [H.out]; rfl, rfl⟩
  · obtain ⟨k, rfl, hk⟩ := inQ_nat hq
    have H := Lib.hid (show wholeQ x k = x / 2 ^ k by unfold wholeQ; rw [hq, if_pos rfl, Int.toNat_natCast])
    have hk2 : (k : Int) ≤ 62 := by omega
    clear hq
    go_enter Tryd.func15, Tryd.ntmps15
    go_wp2_with fail
    go_ret
    exact ⟨by rw [H.out]; rfl, rfl⟩
theorem part_mask (x : Int) (k : Nat) (hk : k ≤ 62) : bits BinOp.and IntKind.u64 (IntKind.u64.wrap x) (IntKind.u64.wrap (IntKind.u64.wrap (2 ^ k) - 1)) = x % 2 ^ k := by
  have h0 : 0 ≤ IntKind.u64.wrap x ∧ IntKind.u64.wrap x < 18446744073709551616 := by rw [IntKind.wrap_u64]; omega
  have h := and_mask (IntKind.u64.wrap x).toNat k hk (by omega)
  rw [Int.toNat_of_nonneg h0.1] at h
  rw [h]
  obtain ⟨e, p1, p2⟩ := pow_int k hk
  rw [Int.natCast_emod, Int.toNat_of_nonneg h0.1, ← e, IntKind.wrap_u64]
  have hd : (2 : Int) ^ k ∣ 18446744073709551616 := by
    rw [e, show (18446744073709551616 : Int) = ((2 ^ 64 : Nat) : Int) from by decide]
    exact Int.natCast_dvd_natCast.2 (Nat.pow_dvd_pow 2 (by omega))
  exact Int.emod_emod_of_dvd x hd
theorem part_any (x q : Int) (w : World) : Calls Tryd.prog 14 #[.int .i64 x, .int .i64 q] w fun e w' => e = .returned (.int .u64 (partQ x q)) ∧ w = w' := by
  have HR := Lib.hid (fun W => right2_any q W)
  cases hq : inQ q
  · have H := Lib.hid (show partQ x q = 0 by unfold partQ; rw [hq]; rfl)
    rw [hq] at HR
    clear hq
    go_enter Tryd.func14, Tryd.ntmps14
    go_wp2_with fail
    refine (HR.out _).mono ?_
    rintro e w' ⟨rfl, rfl⟩
    go_wp2_with fail
    go_ret
    exact ⟨by rw [H.out]; rfl, rfl⟩
  · obtain ⟨k, rfl, hk⟩ := inQ_nat hq
    have H := Lib.hid (show partQ x k = x % 2 ^ k by unfold partQ; rw [hq, if_pos rfl, Int.toNat_natCast])
    rw [hq] at HR
    have HM := Lib.hid (part_mask x k hk)
    clear hq
    go_enter Tryd.func14, Tryd.ntmps14
    go_wp2_with fail
    refine (HR.out _).mono ?_
    rintro e w' ⟨rfl, rfl⟩
    go_wp2_with fail
    go_ret
    exact ⟨by rw [H.out, ← HM.out]; rfl, rfl⟩
theorem refPart_any (x q : Int) (h0 : -9223372036854775808 ≤ x) (h1 : x ≤ 9223372036854775807) (w : World) : Calls Tryd.prog 16 #[.int .i64 x, .int .i64 q] w fun e w' => e = .returned (.int .u64 (partQ x q)) ∧ w = w' := by
  cases hq : inQ q
  · have H := Lib.hid (show partQ x q = 0 by unfold partQ; rw [hq]; rfl)
    have hq' : q < 0 ∨ ¬ q < 0 ∧ 62 < q := by unfold inQ at hq; simp at hq; omega
    clear hq
    rcases hq' with h | ⟨h, h2⟩
    all_goals
      go_enter Tryd.func16, Tryd.ntmps16
      go_wp2_with fail
      go_ret
      exact ⟨by rw [H.out]; rfl, rfl⟩
  · obtain ⟨k, rfl, hk⟩ := inQ_nat hq
    have H := Lib.hid (show partQ x k = x % 2 ^ k by unfold partQ; rw [hq, if_pos rfl, Int.toNat_natCast])
    have hk2 : (k : Int) ≤ 62 := by omega
    obtain ⟨e, p1, p2⟩ := pow_int k hk
    have d1 := Int.ediv_mul_add_emod x (2 ^ k)
    have d2 := Int.emod_nonneg x (show (2 : Int) ^ k ≠ 0 by omega)
    have d3 := Int.emod_lt_of_pos x (show (0 : Int) < 2 ^ k by omega)
    have HK : Hid (IntKind.u64.wrap (wrap64 (x - wrap64 (x / 2 ^ k * 2 ^ k))) = x % 2 ^ k) := Lib.hid (by
      rw [IntKind.wrap_u64]
      unfold wrap64
      omega)
    clear hq d1 d2 d3 e p1 p2
    go_enter Tryd.func16, Tryd.ntmps16
    go_wp2_with fail
    go_ret
    exact ⟨by rw [H.out, ← HK.out]; rfl, rfl⟩
set_option maxHeartbeats 2000000 in
theorem walk_parts (x q : Int) (h0 : -9223372036854775808 ≤ x) (h1 : x ≤ 9223372036854775807) (w : World) (ht : Pow10 w) :
    Calls Tryd.prog 6 #[.int .i64 x, .int .i64 q] w fun e w' => e = .returned (.bool true) ∧ Below w.heap.size w w' := by
  have HT := Lib.hid ht
  have HW := Lib.hid (fun W => whole_any x q W)
  have HP := Lib.hid (fun W => part_any x q W)
  have HRW := Lib.hid (fun W => refWhole_any x q W)
  have HRP := Lib.hid (fun W => refPart_any x q h0 h1 W)
  clear ht
  cases hq : inQ q
  · have e1 : wholeQ x q = 0 := by unfold wholeQ; rw [hq]; rfl
    have e2 : partQ x q = 0 := by unfold partQ; rw [hq]; rfl
    rw [e1] at HW HRW
    rw [e2] at HP HRP
    have hq' : q < 0 ∨ ¬ q < 0 ∧ 62 < q := by unfold inQ at hq; simp at hq; omega
    clear hq e1 e2
    rcases hq' with h | ⟨h, h2⟩
    all_goals
      go_enter Tryd.func6, Tryd.ntmps6
      go_wp2_with fail
      refine (HW.out _).mono ?_
      rintro e w' ⟨rfl, rfl⟩
      go_wp2_with fail
      refine (HP.out _).mono ?_
      rintro e w' ⟨rfl, rfl⟩
      go_wp2_with fail
      refine (HRW.out _).mono ?_
      rintro e w' ⟨rfl, rfl⟩
      go_wp2_with fail
      refine (HRP.out _).mono ?_
      rintro e w' ⟨rfl, rfl⟩
      go_wp2_with fail
      refine (alive2_any _ HT.out).mono ?_
      rintro e w2 ⟨rfl, b2⟩
      go_wp2_with fail
      go_ret
      exact ⟨by first | rfl | (simp; done), b2⟩
  · obtain ⟨k, rfl, hk⟩ := inQ_nat hq
    have e1 : wholeQ x k = x / 2 ^ k := by unfold wholeQ; rw [hq, if_pos rfl, Int.toNat_natCast]
    have e2 : partQ x k = x % 2 ^ k := by unfold partQ; rw [hq, if_pos rfl, Int.toNat_natCast]
    rw [e1] at HW HRW
    rw [e2] at HP HRP
    obtain ⟨e, p1, p2⟩ := pow_int k hk
    have d1 := Int.ediv_mul_add_emod x (2 ^ k)
    have d2 := Int.emod_nonneg x (show (2 : Int) ^ k ≠ 0 by omega)
    have d3 := Int.emod_lt_of_pos x (show (0 : Int) < 2 ^ k by omega)
    have hk2 : (k : Int) ≤ 62 := by omega
    have hwr : IntKind.u64.wrap (2 ^ k) = 2 ^ k := by rw [IntKind.wrap_u64]; omega
    have HB : Hid ((wrap64 (wrap64 (x / 2 ^ k * 2 ^ k) + x % 2 ^ k) == x) = true) := Lib.hid (by simp only [beq_iff_eq]; unfold wrap64; omega)
    clear hq e e1 e2
    generalize x / 2 ^ k = d at *
    generalize x % 2 ^ k = p at *
    go_enter Tryd.func6, Tryd.ntmps6
    go_wp2_with fail
    refine (HW.out _).mono ?_
    rintro e w' ⟨rfl, rfl⟩
    go_wp2_with fail
    refine (HP.out _).mono ?_
    rintro e w' ⟨rfl, rfl⟩
    go_wp2_with fail
    refine (HRW.out _).mono ?_
    rintro e w' ⟨rfl, rfl⟩
    go_wp2_with fail
    refine (HRP.out _).mono ?_
    rintro e w' ⟨rfl, rfl⟩
    go_wp2_with fail
    refine (alive2_any _ HT.out).mono ?_
    rintro e w2 ⟨rfl, b2⟩
    go_wp2_with fail
    go_ret
    exact ⟨ret_b (by rw [HB.out]; simp), b2⟩
end Go.Proofs.YtdpcpfapleehmaaDoor
