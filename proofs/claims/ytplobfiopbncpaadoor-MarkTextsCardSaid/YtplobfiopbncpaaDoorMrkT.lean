/- Layer 16: Text, and the chapter's example. -/
import Derived.Test.YtplobfiopbncpaaDoorMrkE
import Derived.Test.YtplobfiopbncpaaDoorDecT
namespace Go.Proofs.YtplobfiopbncpaaDoor
open Go.RowKit
set_option linter.unusedVariables false
theorem ftoi {b : Nat} {x : Int} (h : IsF b x) (hx : x.natAbs ≤ 1125899906842624) : floatToIntVal .f64 b .i64 = some x := by
  unfold floatToIntVal
  rw [show (FloatKind.decode .f64 b).toInt .zero = some x from toInt_isF h]
  have h1 : IntKind.i64.min = -9223372036854775808 := by decide
  have h2 : IntKind.i64.max = 9223372036854775807 := by decide
  dsimp only
  rw [h1, h2, if_pos (by omega)]
/-- the text of a mark -/
def markL (x y : Int) : List UInt8 := textB x 0 ++ [if y < 0 then 45 else 43] ++ textB (y.natAbs : Int) 0 ++ [105]
theorem textB0_len (x : Int) (hx : x.natAbs < 18446744073709551616) : (textB x 0).length ≤ 21 := by
  have e : textB x 0 = textL x 0 := by unfold textB; rw [if_pos (by omega)]; rfl
  rw [e]
  unfold textL
  have h := dec_len (x.natAbs / 2 ^ 0) (by omega)
  have h2 : x.natAbs % 2 ^ 0 = 0 := by omega
  rw [if_pos h2]
  split
  · simp only [List.length_append, List.length_cons, List.length_nil]; omega
  · simp only [List.length_append, List.length_nil]; omega
set_option maxHeartbeats 1000000 in
theorem mtext_any (re im : Nat) (x y : Int) (hre : IsF re x) (him : IsF im y) (hx : x.natAbs ≤ 1125899906842624) (hy : y.natAbs ≤ 1125899906842624) (w : World) (ht : Pow10 w) :
    Calls Tryd.prog 22 #[.complex .f64 re im] w fun e w' => e = .returned (.string ⟨(markL x y).toArray⟩) ∧ Below w.heap.size w w' := by
  have c1 : ∀ W, (convert 33 2 (.float .f64 re)).run Tryd.prog W = .ok (.int .i64 x) W := fun W => run_convert_float_int W _ _ .f64 .i64 re x (by kernel_rfl) Tryd.underlying2 (ftoi hre hx)
  have c2 : ∀ W, (convert 33 2 (.float .f64 im)).run Tryd.prog W = .ok (.int .i64 y) W := fun W => run_convert_float_int W _ _ .f64 .i64 im y (by kernel_rfl) Tryd.underlying2 (ftoi him hy)
  have HT := Lib.hid ht
  have H1 := Lib.hid (fun W t => text_any x 0 (by omega) (by omega) W t)
  have H2 := Lib.hid (fun W t => text_any (y.natAbs : Int) 0 (by omega) (by omega) W t)
  have l1 := textB0_len x (by omega)
  have l2 := textB0_len (y.natAbs : Int) (by omega)
  have HL : Hid (markL x y = textB x 0 ++ [if y < 0 then 45 else 43] ++ textB (y.natAbs : Int) 0 ++ [105]) := Lib.hid rfl
  clear ht hre him
  by_cases hn : y < 0
  · have g1 : decide (y < 0) = true := by simpa using hn
    rw [if_pos hn] at HL
    have wn : -y = (y.natAbs : Int) := by omega
    have wq : IntKind.i64.wrap (-y) = (y.natAbs : Int) := by rw [wn]; exact IntWalk.i64_in _ (by omega)
    generalize textB x 0 = A at *
    generalize textB (y.natAbs : Int) 0 = B at *
    have k1 : ¬ 9223372036854775807 < A.length + 1 := by omega
    have k2 : ¬ 9223372036854775807 < (A ++ [45]).length + B.length := by simp; omega
    have k3 : ¬ 9223372036854775807 < (A ++ [45] ++ B).length + 1 := by simp; omega
    go_enter Tryd.func22, Tryd.ntmps22
    go_wp2_with fail
    refine (H1.out _ HT.out).mono ?_
    rintro e w1 ⟨rfl, b1⟩
    go_wp2_with fail
    refine (H2.out _ (HT.out.later b1)).mono ?_
    rintro e w2 ⟨rfl, b2⟩
    go_wp2_with fail
    go_ret
    exact ⟨by rw [HL.out]; first | rfl | (simp [← bytes_append]; done), below_step b1 b2⟩
  · have g1 : decide (y < 0) = false := by simpa using hn
    rw [if_neg hn] at HL
    have wn : (y.natAbs : Int) = y := by omega
    rw [wn] at HL H2 l2
    generalize textB x 0 = A at *
    generalize textB y 0 = B at *
    have k1 : ¬ 9223372036854775807 < A.length + 1 := by omega
    have k2 : ¬ 9223372036854775807 < (A ++ [43]).length + B.length := by simp; omega
    have k3 : ¬ 9223372036854775807 < (A ++ [43] ++ B).length + 1 := by simp; omega
    go_enter Tryd.func22, Tryd.ntmps22
    go_wp2_with fail
    refine (H1.out _ HT.out).mono ?_
    rintro e w1 ⟨rfl, b1⟩
    go_wp2_with fail
    refine (H2.out _ (HT.out.later b1)).mono ?_
    rintro e w2 ⟨rfl, b2⟩
    go_wp2_with fail
    go_ret
    exact ⟨by rw [HL.out]; first | rfl | (simp [← bytes_append]; done), below_step b1 b2⟩
end Go.Proofs.YtplobfiopbncpaaDoor
