/- What the functions of package fixp and of its reference return, for all arguments. -/
import Derived.Test.YtinflmjombcolaaFixpRefP
import Derived.Test.YtinflmjombcolaaShelf
import Derived.Test.YtinflmjombcolaaMem
import Derived.Deep.QuietTactic
import Derived.BigQuiet
namespace Go.Proofs.Ytinflmjombcolaa
open Go.RowKit


theorem right_any (q : Int) (w : World) :
    Calls Try.prog 47 #[.int .i64 q] w fun e w' => e = .returned (.bool (decide (0 ≤ q ∧ q ≤ 62))) ∧ w = w' := by
  go_enter Try.func47, Try.ntmps47
  go_wp2
  all_goals go_ret
  all_goals simp
  all_goals omega

theorem shift_in (hi lo q : Int) (w : World) (h0 : 0 ≤ q) (h1 : q ≤ 63) (h2 : 0 ≤ lo) (h3 : lo < 18446744073709551616) :
    Calls Try.prog 49 #[.int .i64 hi, .int .u64 lo, .int .i64 q] w fun e w' => e = .returned (.int .i64 (shiftq hi lo q)) ∧ Below w.heap.size w w' := by
  have hs : shiftq hi lo q = wrap64 ((hi * 18446744073709551616 + lo) / 2 ^ q.toNat) := by unfold shiftq; rw [if_pos ⟨h0, h1⟩]
  have hw := shift_word hi lo q.toNat (64 - q).toNat (by omega) h2 h3
  have H := Lib.hid hs
  have H2 := Lib.hid hw
  clear hs hw
  go_enter Try.func49, Try.ntmps49
  go_wp2
  go_quiet (fail)
  go_wp2
  go_ret
  exact ⟨ret_i (by rw [H.out, H2.out, wrap64_mod]), below_drewN (Below.refl _ _) _⟩
theorem shift_out (hi lo q : Int) (w : World) (h : q < 0 ∨ 63 < q) :
    Calls Try.prog 49 #[.int .i64 hi, .int .u64 lo, .int .i64 q] w fun e w' => e = .returned (.int .i64 (shiftq hi lo q)) ∧ Below w.heap.size w w' := by
  have H := Lib.hid (show shiftq hi lo q = 0 by unfold shiftq; rw [if_neg (by omega)])
  rcases h with h | h
  · go_enter Try.func49, Try.ntmps49
    go_wp2
    go_ret
    exact ⟨ret_i H.out.symm, Below.refl _ _⟩
  · have h' : ¬ q < 0 := by omega
    go_enter Try.func49, Try.ntmps49
    go_wp2
    go_ret
    exact ⟨ret_i H.out.symm, Below.refl _ _⟩
theorem shift_any (hi lo q : Int) (w : World) (h2 : 0 ≤ lo) (h3 : lo < 18446744073709551616) :
    Calls Try.prog 49 #[.int .i64 hi, .int .u64 lo, .int .i64 q] w fun e w' => e = .returned (.int .i64 (shiftq hi lo q)) ∧ Below w.heap.size w w' := by
  by_cases h : 0 ≤ q ∧ q ≤ 63
  · exact shift_in hi lo q w h.1 h.2 h2 h3
  · exact shift_out hi lo q w (by omega)


theorem mul64_any (x y : Int) (w : World) (hx0 : 0 ≤ x) (hx : x < 18446744073709551616) (hy0 : 0 ≤ y) (hy : y < 18446744073709551616) :
    Calls Try.prog 51 #[.int .u64 x, .int .u64 y] w fun e w' => e = .returned (.tuple #[.int .u64 (x * y / 18446744073709551616), .int .u64 (x * y % 18446744073709551616)]) ∧ w = w' := by
  obtain ⟨a, rfl⟩ := Int.eq_ofNat_of_zero_le hx0
  obtain ⟨b, rfl⟩ := Int.eq_ofNat_of_zero_le hy0
  refine (Try.bits_Mul64 a b (by omega) (by omega) w).mono ?_
  rintro e w' ⟨rfl, rfl⟩
  refine ⟨?_, rfl⟩
  simp
theorem product_any (a b : Int) (ha : -9223372036854775808 ≤ a) (ha' : a ≤ 9223372036854775807) (hb : -9223372036854775808 ≤ b) (hb' : b ≤ 9223372036854775807) (w : World) :
    Calls Try.prog 48 #[.int .i64 a, .int .i64 b] w fun e w' => e = .returned (.tuple #[.int .i64 (hi128 (a * b)), .int .u64 (lo128 (a * b))]) ∧ Below w.heap.size w w' := by
  have N1 := Lib.hid (pc_nn a b ha ha' hb hb')
  have N2 := Lib.hid (pc_np a b ha ha' hb hb')
  have N3 := Lib.hid (pc_pn a b ha ha' hb hb')
  have N4 := Lib.hid (pc_pp a b ha' hb')
  by_cases h1 : a < 0 <;> by_cases h2 : b < 0
  all_goals
    go_enter Try.func48, Try.ntmps48
    go_wp2_with (go_at_call 51; refine (mul64_any _ _ _ (by first | omega | exact (word_range _).1) (by first | omega | exact (word_range _).2) (by first | omega | exact (word_range _).1) (by first | omega | exact (word_range _).2)).mono ?_; rintro e w' ⟨rfl, rfl⟩)
    go_quiet (fail)
    go_wp2
    go_ret2
  · exact ⟨ret_words (N1.out h1 h2) (pl_nn a b), below_drewN ((Below.refl _ _).alloc (Nat.le_refl _) _) _⟩
  · exact ⟨ret_words (N2.out h1 h2) (pl_np a b), below_drewN ((Below.refl _ _).alloc (Nat.le_refl _) _) _⟩
  · exact ⟨ret_words (N3.out h1 h2) (pl_pn a b), below_drewN ((Below.refl _ _).alloc (Nat.le_refl _) _) _⟩
  · exact ⟨ret_words (N4.out h1 h2) rfl, below_drewN ((Below.refl _ _).alloc (Nat.le_refl _) _) _⟩
theorem mul_any (a b q : Int) (ha : -9223372036854775808 ≤ a) (ha' : a ≤ 9223372036854775807) (hb : -9223372036854775808 ≤ b) (hb' : b ≤ 9223372036854775807) (w : World) :
    Calls Try.prog 43 #[.int .i64 a, .int .i64 b, .int .i64 q] w fun e w' => e = .returned (.int .i64 (mulq a b q)) ∧ Below w.heap.size w w' := by
  by_cases h : 0 ≤ q ∧ q ≤ 62
  · have hd : decide (0 ≤ q ∧ q ≤ 62) = true := by simpa using h
    have M := Lib.hid (mulq_product a b q h.2)
    have R := right_any q w
    rw [hd] at R
    go_enter Try.func43, Try.ntmps43
    go_wp2_with (first | (go_at_call 47; refine R.mono ?_; rintro e w' ⟨rfl, rfl⟩) | (go_at_call 48; refine (product_any a b ha ha' hb hb' _).mono ?_; rintro e w1 ⟨rfl, hb1⟩) | (go_at_call 49; refine (shift_any _ _ _ _ (lo128_range _).1 (lo128_range _).2).mono ?_; rintro e w2 ⟨rfl, hb2⟩))
    go_ret
    exact ⟨ret_i M.out, hb1.trans (hb2.mono hb1.size)⟩
  · have hd : decide (0 ≤ q ∧ q ≤ 62) = false := by simpa using h
    have M := Lib.hid (mulq_out a b q h)
    have R := right_any q w
    rw [hd] at R
    go_enter Try.func43, Try.ntmps43
    go_wp2_with (go_at_call 47; refine R.mono ?_; rintro e w' ⟨rfl, rfl⟩)
    go_ret
    exact ⟨ret_i M.out.symm, Below.refl _ _⟩
theorem gateq_max (a : Int) : max a 0 = gateq a a := by unfold gateq; split <;> omega
/-- the reference's Shift: both words are shifted by one bit, again and again -/
theorem refShift_any (hi lo q : Int) (w : World) (h2 : 0 ≤ lo) (h3 : lo < 18446744073709551616) :
    Calls Try.prog 45 #[.int .i64 hi, .int .u64 lo, .int .i64 q] w fun e w' => e = .returned (.int .i64 (shiftq hi lo q)) ∧ w = w' := by
  by_cases h : 0 ≤ q ∧ q ≤ 63
  · have hs : shiftq hi lo q = wrap64 ((hi * 18446744073709551616 + lo) / 2 ^ q.toNat) := by unfold shiftq; rw [if_pos h]
    have H := Lib.hid hs
    clear hs
    obtain ⟨n, rfl⟩ := Int.eq_ofNat_of_zero_le h.1
    have hn : n ≤ 63 := by omega
    clear h
    go_enter Try.func45, Try.ntmps45
    go_wp2
    go_loop [0, 1, 7] (fun h l i => ∃ k : Nat, i = .int .i64 k ∧ k ≤ n ∧ h = .int .i64 (hi / 2 ^ k) ∧ l = .int .u64 ((hi * 18446744073709551616 + lo) / 2 ^ k % 18446744073709551616)) (fun _ _ i => (63 - intOf i).toNat)
    case atStart => exact ⟨0, rfl, by omega, by simp, by simp; omega⟩
    case round =>
      obtain ⟨k, rfl, hk, rfl, rfl⟩ := hrel
      have S := shift_word (hi / 2 ^ k) ((hi * 18446744073709551616 + lo) / 2 ^ k % 18446744073709551616) 1 63 (by omega) (by omega) (by omega)
      rw [← shift_parts hi lo k h2 h3, Int.pow_one, ← ediv_pow_succ, or_swap, show (2 : Int) ^ 63 = 9223372036854775808 by decide] at S
      have S' := Lib.hid S
      clear S
      by_cases hlt : k < n
      · go_wp2
        go_round
        case rel => exact ⟨k + 1, by go_num, by omega, by rw [ediv_pow_succ], by rw [S'.out]⟩
        case measure => simp [intOf]; omega
      · go_wp2
        obtain rfl : k = n := by omega
        go_ret
        exact ⟨ret_i (by rw [H.out, wrap64_mod, Int.toNat_natCast]), rfl⟩
  · have H := Lib.hid (show shiftq hi lo q = 0 by unfold shiftq; rw [if_neg h])
    have h' : q < 0 ∨ ¬ q < 0 ∧ 63 < q := by omega
    clear h
    rcases h' with h | h
    all_goals
      go_enter Try.func45, Try.ntmps45
      go_wp2
      go_ret
      exact ⟨ret_i H.out.symm, rfl⟩
theorem refMul_any (a b q : Int) (ha : -9223372036854775808 ≤ a) (ha' : a ≤ 9223372036854775807) (hb : -9223372036854775808 ≤ b) (hb' : b ≤ 9223372036854775807) (w : World) :
    Calls Try.prog 38 #[.int .i64 a, .int .i64 b, .int .i64 q] w fun e w' => e = .returned (.int .i64 (mulq a b q)) ∧ w = w' := by
  by_cases h : 0 ≤ q ∧ q ≤ 62
  · have M := Lib.hid (mulq_product a b q h.2)
    have h1 := h.1
    have h2 := h.2
    clear h
    go_enter Try.func38, Try.ntmps38
    go_wp2_with (first | (go_at_call 44; refine (refProduct_any a b ha ha' hb hb' _).mono ?_; rintro e w1 ⟨rfl, rfl⟩) | (go_at_call 45; refine (refShift_any _ _ _ _ (lo128_range _).1 (lo128_range _).2).mono ?_; rintro e w2 ⟨rfl, rfl⟩))
    go_ret
    exact ⟨ret_i M.out, rfl⟩
  · have M := Lib.hid (mulq_out a b q h)
    have h' : q < 0 ∨ ¬ q < 0 ∧ 62 < q := by omega
    clear h
    rcases h' with h | h
    all_goals
      go_enter Try.func38, Try.ntmps38
      go_wp2
      go_ret
      exact ⟨ret_i M.out.symm, rfl⟩
theorem mulq_alive : mulq 3 (-1) 1 = -2 := by unfold mulq wrap64; decide
end Go.Proofs.Ytinflmjombcolaa
