/- Layer 16: MarkVectors. -/
import Derived.Test.YtplobfiopbncpaaDoorMrkU
namespace Go.Proofs.YtplobfiopbncpaaDoor
open Go.RowKit
set_option linter.unusedVariables false
theorem acc_one (x : Int) : accR [x] ([x] : List Int).length = lowI x ∧ accI [x] ([x] : List Int).length = 0 := by
  constructor
  · show 0 + (lowI x * powR 0 - 0 * powI 0) = lowI x
    rw [show powR 0 = 1 from rfl]; omega
  · show 0 + (lowI x * powI 0 + 0 * powR 0) = 0
    rw [show powI 0 = 0 from rfl]; omega
set_option maxHeartbeats 2000000 in
theorem walk_vectors (v : Value) (xs : List Int) (x : Int) (hm : xs.length ≤ maxLen) (w : World) (ht : Pow10 w) (hv : IntsW .i64 w.heap.size w v xs) :
    Calls Tryd.prog 3 #[v, .int .i64 x] w fun e w' => e = .returned (.bool true) ∧ Below w.heap.size w w' := by
  obtain ⟨a, c, rfl⟩ := hv.value
  have HV := Lib.hid hv
  have HA := Lib.hid (alive16_any w ht)
  clear hv ht
  by_cases hc : (1000 : Int) < (xs.length : Int)
  · have g1 : decide ((1000 : Int) < (xs.length : Int)) = true := by simpa using hc
    go_enter Tryd.func3, Tryd.ntmps3
    go_wp2_with fail
    refine HA.out.mono ?_
    rintro e w1 ⟨rfl, b1⟩
    go_wp2_with fail
    go_ret
    exact ⟨rfl, b1⟩
  · have g1 : decide ((1000 : Int) < (xs.length : Int)) = false := by simpa using hc
    have bk := acc_le xs xs.length
    have lo := lowI_le x
    have F0 := ofInt_isF (lowI x) (by omega)
    go_enter Tryd.func3, Tryd.ntmps3
    go_wp2_with fail
    refine HA.out.mono ?_
    rintro e w1 ⟨rfl, b1⟩
    have B1 := Lib.hid b1
    clear HA b1
    have H2 := Lib.hid (of_any _ xs (by omega) w1 ((HV.out.below B1.out).grow B1.out.size))
    go_wp2_with fail
    refine H2.out.mono ?_
    rintro e w2 ⟨⟨re, im, rfl, f1, f2⟩, b2⟩
    have B2 := Lib.hid (B1.out.trans (b2.mono B1.out.size))
    clear B1 b2 H2
    have H3 := Lib.hid (refOf_any _ xs (by omega) w2 ((HV.out.below B2.out).grow B2.out.size))
    go_wp2_with fail
    refine H3.out.mono ?_
    rintro e w3 ⟨rfl, b3⟩
    have B3 := Lib.hid (B2.out.trans (b3.mono B2.out.size))
    clear B2 b3 H3
    have H4 := Lib.hid (given_any (accR xs xs.length) (accI xs xs.length) (by omega) (by omega) w3)
    go_wp2_with fail
    refine H4.out.mono ?_
    rintro e w4 ⟨⟨re', im', rfl, f3, f4⟩, b4⟩
    have B4 := Lib.hid (B3.out.trans (b4.mono B3.out.size))
    have o1 := ord_eq f1 f3 rfl
    have o2 := ord_eq f2 f4 rfl
    clear B3 b4 H4 f1 f2 f3 f4 bk
    go_wp2_with fail
    refine (low_any x w4).mono ?_
    rintro e w5 ⟨rfl, b5⟩
    have B5 := Lib.hid (B4.out.trans (b5.mono B4.out.size))
    clear B4 b5
    go_wp2_with fail
    refine (refLow_any x w5).mono ?_
    rintro e w6 ⟨rfl, b6⟩
    have B6 := Lib.hid (B5.out.trans (b6.mono B5.out.size))
    clear B5 b6
    have b7 := (Below.refl w6.heap.size w6).alloc (Nat.le_refl _) (.cells #[.int .i64 x] 2)
    have v7 : IntsAt .i64 (w6.alloc (.cells #[.int .i64 x] 2)).heap.size _ (.slice (some ⟨w6.heap.size, 0, none⟩) 1 1) [x] := IntsAt.fresh rfl
    have H7 := Lib.hid (of_any _ [x] (by simp) _ (.inr v7))
    rw [(acc_one x).1, (acc_one x).2] at H7
    have B7 := Lib.hid (B6.out.trans (b7.mono B6.out.size))
    have heq : (lowI x == lowI x) = true := by simp
    clear B6 b7 v7
    go_wp2_with fail
    refine H7.out.mono ?_
    rintro e w8 ⟨⟨r8, i8, rfl, f1, f2⟩, b8⟩
    have B8 := Lib.hid (B7.out.trans (b8.mono B7.out.size))
    have o3 := ord_eq f1 F0 rfl
    have o4 := ord_eq f2 isF0 rfl
    clear B7 b8 H7 f1 f2
    go_wp2_with fail
    refine (low_any x w8).mono ?_
    rintro e w9 ⟨rfl, b9⟩
    have B9 := B8.out.trans (b9.mono B8.out.size)
    clear B8 b9
    go_wp2_with fail
    go_ret
    exact ⟨by first | rfl | (simp; done), B9⟩
end Go.Proofs.YtplobfiopbncpaaDoor
