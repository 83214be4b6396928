/- Layer 16: the chapter's example. -/
import Derived.Test.YtplobfiopbncpaaDoorMrkT
namespace Go.Proofs.YtplobfiopbncpaaDoor
open Go.RowKit
set_option linter.unusedVariables false
theorem ord_eq {x y : Nat} {a b : Int} (hx : IsF x a) (hy : IsF y b) (h : a = b) : FloatKind.f64.format.order x y = some .eq := by
  have e : FloatKind.f64.format.order x y = some (compare a b) := order_isF hx hy
  rw [e, Int.compare_eq_eq.2 h]
theorem ord_ne {x y : Nat} {a b : Int} (hx : IsF x a) (hy : IsF y b) (h : a ≠ b) : (FloatKind.f64.format.order x y == some .eq) = false := by
  have e : FloatKind.f64.format.order x y = some (compare a b) := order_isF hx hy
  rw [e]
  have h2 : compare a b ≠ .eq := fun h3 => h (Int.compare_eq_eq.1 h3)
  cases hc : compare a b
  · rfl
  · exact absurd hc h2
  · rfl
set_option maxHeartbeats 1000000 in
theorem alive16_any (w : World) (ht : Pow10 w) : Calls Tryd.prog 9 #[] w fun e w' => e = .returned (.bool true) ∧ Below w.heap.size w w' := by
  have H1 := Lib.hid (mtext_any 13830554455654793216 0 (-1) 0 isFm1 isF0 (by decide) (by decide) w ht)
  rw [show markL (-1) 0 = [45, 49, 43, 48, 105] by kernel_rfl] at H1
  clear ht
  go_enter Tryd.func9, Tryd.ntmps9
  go_wp2_with fail
  refine H1.out.mono ?_
  rintro e w1 ⟨rfl, b1⟩
  clear H1
  have b2 := (Below.refl w1.heap.size w1).alloc (Nat.le_refl _) (.cells #[.int .i64 1, .int .i64 2, .int .i64 3, .int .i64 4] 2)
  have v2 : IntsAt .i64 (w1.alloc (.cells #[.int .i64 1, .int .i64 2, .int .i64 3, .int .i64 4] 2)).heap.size _ (.slice (some ⟨w1.heap.size, 0, none⟩) 4 4) [1, 2, 3, 4] := IntsAt.fresh rfl
  have H2 := Lib.hid (of_any _ [1, 2, 3, 4] (by decide) _ (.inr v2))
  rw [show accR [1, 2, 3, 4] ([1, 2, 3, 4] : List Int).length = -2 by decide, show accI [1, 2, 3, 4] ([1, 2, 3, 4] : List Int).length = -2 by decide] at H2
  have B2 := Lib.hid (below_step b1 b2)
  clear b1 b2 v2
  go_wp2_with fail
  refine H2.out.mono ?_
  rintro e w3 ⟨⟨re, im, rfl, f1, f2⟩, b3⟩
  have o1 := ord_eq f1 isFm2 rfl
  have o2 := ord_eq f2 isFm2 rfl
  have b4 := (Below.refl w3.heap.size w3).alloc (Nat.le_refl _) (.cells #[.int .i64 65535] 2)
  have v4 : IntsAt .i64 (w3.alloc (.cells #[.int .i64 65535] 2)).heap.size _ (.slice (some ⟨w3.heap.size, 0, none⟩) 1 1) [65535] := IntsAt.fresh rfl
  have H4 := Lib.hid (of_any _ [65535] (by decide) _ (.inr v4))
  rw [show accR [65535] ([65535] : List Int).length = -1 by decide, show accI [65535] ([65535] : List Int).length = 0 by decide] at H4
  have B4 := Lib.hid (below_step (B2.out.trans (b3.mono B2.out.size)) b4)
  clear B2 b3 b4 v4 H2 f1 f2
  go_wp2_with fail
  refine H4.out.mono ?_
  rintro e w5 ⟨⟨re', im', rfl, f1, f2⟩, b5⟩
  have o3 := ord_eq f1 isFm1 rfl
  have o4 := ord_eq f2 isF0 rfl
  have B5 := below_step B4.out b5
  clear B4 b5 H4 f1 f2
  go_wp2_with fail
  go_ret
  exact ⟨by first | rfl | (simp; done), B5⟩
end Go.Proofs.YtplobfiopbncpaaDoor
