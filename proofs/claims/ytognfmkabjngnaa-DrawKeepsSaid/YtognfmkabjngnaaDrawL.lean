/- The example that each statement looks at. -/
import Derived.Test.YtognfmkabjngnaaDrawM
namespace Go.Proofs.Ytognfmkabjngnaa
open Go.RowKit
set_option maxHeartbeats 1000000 in
theorem alive_any (w : World) :
    Calls Try.prog 6 #[] w fun e w' => e = .returned (.bool true) ∧ Below w.heap.size w w' := by
  go_enter Try.func6, Try.ntmps6
  go_wp2_with fail
  refine (new_any _ [7, 9] (by decide) _ (IntsAt.fresh rfl)).mono ?_
  rintro e w1 ⟨b, rfl, hb, s1, b1⟩
  go_wp2_with fail
  refine (many_any b [7, 9] (by decide) 0 (by decide) _ [5, 4] (by decide) (by decide) _ (s1.later ((Below.refl _ _).alloc (Nat.le_refl _) _)) (IntsAt.fresh rfl) ?_).mono ?_
  · rintro g o n c e
    cases e
    have := s1.1
    omega
  rintro e w2 h2
  unfold ManyDone at h2
  rw [show manyB [7, 9] 0 [5, 4] = true by decide] at h2
  obtain ⟨v, rfl, ho, s2, g2⟩ := h2
  have hO := Lib.hid (IntsAt.of_owns (zs := [2, 1]) rfl ho)
  rcases hO.out.form with ⟨_, e0⟩ | ⟨g, off, cap, rfl, hcap, hg, hcs⟩
  · cases e0
  have c0 := hcs 0 (by decide)
  have c1 := hcs 1 (by decide)
  simp only [List.getElem?_cons_zero, List.getElem?_cons_succ, Option.getD_some, Nat.add_zero] at c0 c1
  have hs := b1.size
  have hw : w.heap.size ≤ b := Nat.le_trans (by simp) hb
  have x1 := ((Below.refl w.heap.size w).alloc (Nat.le_refl _) _).trans (b1.mono (by simp))
  have b2 := (x1.alloc x1.size (.cells #[.int .i64 5, .int .i64 4] 3)).trans ((Grown.below g2 (by have := s1.1; simp; omega)).mono hw)
  have HB2 := Lib.hid b2
  clear b2 x1
  clear hcs ho
  go_wp2
  go_ret
  exact ⟨by first | rfl | (simp; done), by first | exact HB2.out | exact HB2.out.drew⟩
end Go.Proofs.Ytognfmkabjngnaa
