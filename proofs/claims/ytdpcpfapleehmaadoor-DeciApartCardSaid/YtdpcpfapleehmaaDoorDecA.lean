/- Layer 2: the walk of DeciApart. -/
import Derived.Test.YtdpcpfapleehmaaDoorDecN
import Derived.Test.YtdpcpfapleehmaaDoorDecP
namespace Go.Proofs.YtdpcpfapleehmaaDoor
open Go.RowKit
set_option linter.unusedVariables false
theorem beq_texts (x y : Int) (n : Int) (h : inQ n = true) : (textB x n == textB y n) = (x == y) := by
  obtain ⟨k, rfl, hk⟩ := inQ_nat h
  have e : ∀ z : Int, textB z (k : Int) = textL z k := fun z => by
    unfold textB; rw [if_pos (by omega), Int.toNat_natCast]
  rw [e, e]
  by_cases hxy : x = y
  · subst hxy; simp
  · have h1 : ¬ (textL x k = textL y k) := fun h2 => hxy (textL_inj (by omega) h2)
    rw [show (x == y) = false by simpa using hxy]
    rw [beq_eq_false_iff_ne]
    exact h1
set_option maxHeartbeats 2000000 in
theorem walk_apart (x y q : Int) (h0 : -9223372036854775808 ≤ x) (h1 : x ≤ 9223372036854775807) (y0 : -9223372036854775808 ≤ y) (y1 : y ≤ 9223372036854775807) (q0 : 0 ≤ q) (q1 : q ≤ 255) (w : World) (ht : Pow10 w) :
    Calls Tryd.prog 5 #[.int .i64 x, .int .i64 y, .int .u8 q] w fun e w' => e = .returned (.bool true) ∧ Below w.heap.size w w' := by
  have HT := Lib.hid ht
  have HX := Lib.hid (fun n W t => text_any x n h0 h1 W t)
  have HY := Lib.hid (fun n W t => text_any y n y0 y1 W t)
  have hq : inQ (q % 63) = true := by
    unfold inQ
    simp only [decide_eq_true_eq]
    omega
  have HB := Lib.hid (beq_texts x y _ hq)
  clear hq ht
  go_enter Tryd.func5, Tryd.ntmps5
  go_wp2_with fail
  refine (alive2_any _ HT.out).mono ?_
  rintro e w1 ⟨rfl, b1⟩
  go_wp2_with fail
  refine (HX.out _ _ (HT.out.later b1)).mono ?_
  rintro e w2 ⟨rfl, b2⟩
  have HB2 := Lib.hid (below_step b1 b2)
  go_wp2_with fail
  refine (HY.out _ _ (HT.out.later HB2.out)).mono ?_
  rintro e w3 ⟨rfl, b3⟩
  have HB3 := Lib.hid (below_step HB2.out b3)
  go_wp2_with fail
  go_ret
  exact ⟨ret_b (by rw [HB.out]; simp), HB3.out⟩
end Go.Proofs.YtdpcpfapleehmaaDoor
