/- What the functions of package fixp and of its reference return, for all arguments. -/
import Derived.Test.YtcnabebcckbfkaaDoorFixpRefP
import Derived.Test.YtcnabebcckbfkaaDoorShelf
import Derived.Test.YtcnabebcckbfkaaDoorMem
import Derived.Deep.QuietTactic
import Derived.BigQuiet
namespace Go.Proofs.YtcnabebcckbfkaaDoor
open Go.RowKit



theorem shift_in (hi lo q : Int) (w : World) (h0 : 0 ≤ q) (h1 : q ≤ 63) (h2 : 0 ≤ lo) (h3 : lo < 18446744073709551616) :
    Calls Tryd.prog 67 #[.int .i64 hi, .int .u64 lo, .int .i64 q] w fun e w' => e = .returned (.int .i64 (shiftq hi lo q)) ∧ Below w.heap.size w w' := by
  have hs : shiftq hi lo q = wrap64 ((hi * 18446744073709551616 + lo) / 2 ^ q.toNat) := by unfold shiftq; rw [if_pos ⟨h0, h1⟩]
  have hw := shift_word hi lo q.toNat (64 - q).toNat (by omega) h2 h3
  have H := Lib.hid hs
  have H2 := Lib.hid hw
  clear hs hw
  go_enter Tryd.func67, Tryd.ntmps67
  go_wp2
  go_quiet (fail)
  go_wp2
  go_ret
  exact ⟨ret_i (by rw [H.out, H2.out, wrap64_mod]), below_drewN (Below.refl _ _) _⟩
theorem shift_out (hi lo q : Int) (w : World) (h : q < 0 ∨ 63 < q) :
    Calls Tryd.prog 67 #[.int .i64 hi, .int .u64 lo, .int .i64 q] w fun e w' => e = .returned (.int .i64 (shiftq hi lo q)) ∧ Below w.heap.size w w' := by
  have H := Lib.hid (show shiftq hi lo q = 0 by unfold shiftq; rw [if_neg (by omega)])
  rcases h with h | h
  · go_enter Tryd.func67, Tryd.ntmps67
    go_wp2
    go_ret
    exact ⟨ret_i H.out.symm, Below.refl _ _⟩
  · have h' : ¬ q < 0 := by omega
    go_enter Tryd.func67, Tryd.ntmps67
    go_wp2
    go_ret
    exact ⟨ret_i H.out.symm, Below.refl _ _⟩
theorem shift_any (hi lo q : Int) (w : World) (h2 : 0 ≤ lo) (h3 : lo < 18446744073709551616) :
    Calls Tryd.prog 67 #[.int .i64 hi, .int .u64 lo, .int .i64 q] w fun e w' => e = .returned (.int .i64 (shiftq hi lo q)) ∧ Below w.heap.size w w' := by
  by_cases h : 0 ≤ q ∧ q ≤ 63
  · exact shift_in hi lo q w h.1 h.2 h2 h3
  · exact shift_out hi lo q w (by omega)


theorem mul64_any (x y : Int) (w : World) (hx0 : 0 ≤ x) (hx : x < 18446744073709551616) (hy0 : 0 ≤ y) (hy : y < 18446744073709551616) :
    Calls Tryd.prog 81 #[.int .u64 x, .int .u64 y] w fun e w' => e = .returned (.tuple #[.int .u64 (x * y / 18446744073709551616), .int .u64 (x * y % 18446744073709551616)]) ∧ w = w' := by
  obtain ⟨a, rfl⟩ := Int.eq_ofNat_of_zero_le hx0
  obtain ⟨b, rfl⟩ := Int.eq_ofNat_of_zero_le hy0
  refine (Tryd.bits_Mul64 a b (by omega) (by omega) w).mono ?_
  rintro e w' ⟨rfl, rfl⟩
  refine ⟨?_, rfl⟩
  simp
theorem product_any (a b : Int) (ha : -9223372036854775808 ≤ a) (ha' : a ≤ 9223372036854775807) (hb : -9223372036854775808 ≤ b) (hb' : b ≤ 9223372036854775807) (w : World) :
    Calls Tryd.prog 66 #[.int .i64 a, .int .i64 b] w fun e w' => e = .returned (.tuple #[.int .i64 (hi128 (a * b)), .int .u64 (lo128 (a * b))]) ∧ Below w.heap.size w w' := by
  have N1 := Lib.hid (pc_nn a b ha ha' hb hb')
  have N2 := Lib.hid (pc_np a b ha ha' hb hb')
  have N3 := Lib.hid (pc_pn a b ha ha' hb hb')
  have N4 := Lib.hid (pc_pp a b ha' hb')
  by_cases h1 : a < 0 <;> by_cases h2 : b < 0
  all_goals
    go_enter Tryd.func66, Tryd.ntmps66
    go_wp2_with (go_at_call 81; refine (mul64_any _ _ _ (by first | omega | exact (word_range _).1) (by first | omega | exact (word_range _).2) (by first | omega | exact (word_range _).1) (by first | omega | exact (word_range _).2)).mono ?_; rintro e w' ⟨rfl, rfl⟩)
    go_quiet (fail)
    go_wp2
    go_ret2
  · exact ⟨ret_words (N1.out h1 h2) (pl_nn a b), below_drewN ((Below.refl _ _).alloc (Nat.le_refl _) _) _⟩
  · exact ⟨ret_words (N2.out h1 h2) (pl_np a b), below_drewN ((Below.refl _ _).alloc (Nat.le_refl _) _) _⟩
  · exact ⟨ret_words (N3.out h1 h2) (pl_pn a b), below_drewN ((Below.refl _ _).alloc (Nat.le_refl _) _) _⟩
  · exact ⟨ret_words (N4.out h1 h2) rfl, below_drewN ((Below.refl _ _).alloc (Nat.le_refl _) _) _⟩
theorem gateq_max (a : Int) : max a 0 = gateq a a := by unfold gateq; split <;> omega
theorem mulq_alive : mulq 3 (-1) 1 = -2 := by unfold mulq wrap64; decide
end Go.Proofs.YtcnabebcckbfkaaDoor
