/- Layer 16: MarkTexts. -/
import Derived.Test.YtplobfiopbncpaaDoorMrkR
import Derived.Deep.Cut
namespace Go.Proofs.YtplobfiopbncpaaDoor
open Go.RowKit
set_option linter.unusedVariables false
theorem textL_B (x : Int) : textL x 0 = textB x 0 := by
  unfold textB
  rw [if_pos (by omega)]
  rfl
set_option maxHeartbeats 2000000 in
theorem refText_any (x y : Int) (hx : x.natAbs ≤ 1125899906842624) (hy : y.natAbs ≤ 1125899906842624) (w : World) :
    Calls Tryd.prog 24 #[.agg #[.int .i64 x, .int .i64 y]] w fun e w' => e = .returned (.string ⟨(markL x y).toArray⟩) ∧ Below w.heap.size w w' := by
  have H1 := Lib.hid (fun W => decimal_any x (by omega) (by omega) W)
  have H2 := Lib.hid (fun W => decimal_any y (by omega) (by omega) W)
  rw [textL_B] at H1 H2
  have l1 := textB0_len x (by omega)
  have l2 := textB0_len y (by omega)
  have T0 := Two.new w 28 (.int .i64 x) (.int .i64 y)
  have bA := (Below.refl w.heap.size w).alloc (Nat.le_refl _) (.cells #[.int .i64 x, .int .i64 y] 28)
  obtain ⟨c0, c1⟩ := T0.cells
  have BA := Lib.hid bA
  clear T0 bA hx hy
  by_cases hn : y < 0
  · have g1 : decide (y < 0) = true := by simpa using hn
    have HL := Lib.hid (show markL x y = textB x 0 ++ textB y 0 ++ [105] by unfold markL; rw [if_pos hn, textB_neg hn]; simp)
    generalize textB x 0 = A at *
    generalize textB y 0 = B at *
    have k1 : ¬ 9223372036854775807 < A.length + B.length := by omega
    have k2 : ¬ 9223372036854775807 < (A ++ B).length + 1 := by simp; omega
    have k3 : ¬ 9223372036854775807 < A.length + B.length + 1 := by omega
    go_enter Tryd.func24, Tryd.ntmps24
    go_upto_region 1 with fail
    generalize w.alloc (.cells #[.int .i64 x, .int .i64 y] 28) = w1 at *
    go_wp2_with fail
    refine (H1.out _).mono ?_
    rintro e w2 ⟨rfl, rfl⟩
    go_wp2_with fail
    refine (H2.out _).mono ?_
    rintro e w3 ⟨rfl, rfl⟩
    go_wp2_with fail
    go_ret
    exact ⟨by rw [HL.out]; first | rfl | (simp [← bytes_append]; done), BA.out⟩
  · have g1 : decide (y < 0) = false := by simpa using hn
    have HL := Lib.hid (show markL x y = textB x 0 ++ [43] ++ textB y 0 ++ [105] by unfold markL; rw [if_neg hn, show (y.natAbs : Int) = y by omega])
    generalize textB x 0 = A at *
    generalize textB y 0 = B at *
    have k1 : ¬ 9223372036854775807 < A.length + 1 := by omega
    have k2 : ¬ 9223372036854775807 < (A ++ [43]).length + B.length := by simp; omega
    have k3 : ¬ 9223372036854775807 < (A ++ [43] ++ B).length + 1 := by simp; omega
    go_enter Tryd.func24, Tryd.ntmps24
    go_upto_region 1 with fail
    generalize w.alloc (.cells #[.int .i64 x, .int .i64 y] 28) = w1 at *
    go_wp2_with fail
    refine (H1.out _).mono ?_
    rintro e w2 ⟨rfl, rfl⟩
    go_wp2_with fail
    refine (H2.out _).mono ?_
    rintro e w3 ⟨rfl, rfl⟩
    go_wp2_with fail
    go_ret
    exact ⟨by rw [HL.out]; first | rfl | (simp [← bytes_append]; done), BA.out⟩
theorem tmod_small (n : Int) : (n.tmod 1125899906842625).natAbs ≤ 1125899906842624 := by
  rcases (show 0 ≤ n ∨ n < 0 by omega) with h | h
  · rw [Int.tmod_eq_emod_of_nonneg h]; omega
  · rw [tmod_neg n _ h]; omega
set_option maxHeartbeats 4000000 in
theorem walk_marktexts (a b : Int) (w : World) (ht : Pow10 w) :
    Calls Tryd.prog 6 #[.int .i64 a, .int .i64 b] w fun e w' => e = .returned (.bool true) ∧ Below w.heap.size w w' := by
  have hx := tmod_small a
  have hy := tmod_small b
  have HA := Lib.hid (fun W (hW : Below w.heap.size w W) => alive16_any W (ht.later hW))
  generalize hX : a.tmod 1125899906842625 = x at *
  generalize hY : b.tmod 1125899906842625 = y at *
  have HG := Lib.hid (fun W => given_any x y (by omega) (by omega) W)
  have HT := Lib.hid (fun W (hW : Below w.heap.size w W) re im hr hi => mtext_any re im x y hr hi hx hy W (ht.later hW))
  have HP := Lib.hid (fun W (hW : Below w.heap.size w W) => parse_mark x y hx hy W (ht.later hW))
  have HR := Lib.hid (fun W => refText_any x y hx hy W)
  have F1 := Lib.hid (ofInt_isF x (by omega))
  have F2 := Lib.hid (ofInt_isF y (by omega))
  generalize floatOfInt .f64 x = fx at *
  generalize floatOfInt .f64 y = fy at *
  generalize markL x y = L at *
  have TZ := Two.new w 28 (.int .i64 x) (.int .i64 y)
  have B1 := Lib.hid ((Below.refl w.heap.size w).alloc (Nat.le_refl _) (.cells #[.int .i64 x, .int .i64 y] 28))
  have HZ := Lib.hid TZ
  clear TZ hx hy ht
  go_enter Tryd.func6, Tryd.ntmps6
  go_upto_region 2 with fail
  generalize w.alloc (.cells #[.int .i64 x, .int .i64 y] 28) = w1 at *
  generalize hN : w.heap.size = N at *
  obtain ⟨c0, c1⟩ := HZ.out.cells
  go_wp2_with fail
  refine (HG.out _).mono ?_
  rintro e w2 ⟨⟨r1, i1, rfl, f1, f2⟩, b⟩
  have B2 := Lib.hid (B1.out.trans (b.mono (by have := B1.out.size; omega)))
  have HZ2 := Lib.hid (HZ.out.later b)
  clear B1 HZ b c0 c1
  go_wp2_with fail
  refine (HT.out _ B2.out _ _ f1 f2).mono ?_
  rintro e w3 ⟨rfl, b⟩
  have B3 := Lib.hid (B2.out.trans (b.mono (by have := B2.out.size; omega)))
  have HZ3 := Lib.hid (HZ2.out.later b)
  clear B2 HZ2 b f1 f2 HT
  go_wp2_with fail
  refine (HP.out _ B3.out).mono ?_
  rintro e w4 ⟨rfl, b⟩
  have B4 := Lib.hid (B3.out.trans (b.mono (by have := B3.out.size; omega)))
  have HZ4 := Lib.hid (HZ3.out.later b)
  clear B3 HZ3 b HP
  go_wp2_with fail
  refine (HA.out _ B4.out).mono ?_
  rintro e w5 ⟨rfl, b⟩
  have B5 := Lib.hid (B4.out.trans (b.mono (by have := B4.out.size; omega)))
  have HZ5 := Lib.hid (HZ4.out.later b)
  obtain ⟨c0, c1⟩ := HZ5.out.cells
  clear B4 HZ4 b HA
  go_wp2_with fail
  refine (HR.out _).mono ?_
  rintro e w6 ⟨rfl, b⟩
  have B6 := Lib.hid (B5.out.trans (b.mono (by have := B5.out.size; omega)))
  have HZ6 := Lib.hid (HZ5.out.later b)
  clear B5 HZ5 b HR c0 c1
  obtain ⟨c0, c1⟩ := HZ6.out.cells
  go_wp2_with fail
  refine (HG.out _).mono ?_
  rintro e w7 ⟨⟨r7, i7, rfl, f1, f2⟩, b⟩
  have o1 := ord_eq F1.out f1 rfl
  have o2 := ord_eq F2.out f2 rfl
  have B7 := B6.out.trans (b.mono (by have := B6.out.size; omega))
  clear B6 HZ6 b c0 c1 f1 f2 HG F1 F2
  go_wp2_with fail
  go_ret
  exact ⟨by first | rfl | (simp; done), by first | exact B7 | (rw [hN]; exact B7)⟩
end Go.Proofs.YtplobfiopbncpaaDoor
