/- Layer 6: the chapter's example, equal lists, PermComposes. -/
import Derived.Test.YtanfdajllhlcbaaPrmD
namespace Go.Proofs.Ytanfdajllhlcbaa
open Go.RowKit
set_option linter.unusedVariables false
theorem equal_same (v u : Value) (zs : List Int) (hl : zs.length ≤ 9223372036854775807) (n₁ n₂ : Nat) (w : World) (hv : IntsAt .i64 n₁ w v zs) (hu : IntsAt .i64 n₂ w u zs) :
    Calls Try.prog 14 #[v, u] w fun e w' => e = .returned (.bool true) ∧ Below w.heap.size w w' := by
  rcases Nat.eq_zero_or_pos zs.length with h0 | h0
  · have hz := List.length_eq_zero_iff.1 h0
    subst hz
    obtain ⟨a, c, rfl⟩ := (show ∃ a c, v = .slice a 0 c by rcases hv.form with ⟨rfl, _⟩ | ⟨b, off, cap, rfl, _⟩ <;> exact ⟨_, _, rfl⟩)
    obtain ⟨a', c', rfl⟩ := (show ∃ a c, u = .slice a 0 c by rcases hu.form with ⟨rfl, _⟩ | ⟨b, off, cap, rfl, _⟩ <;> exact ⟨_, _, rfl⟩)
    refine (Try.slices_Equal_int_empty a a' c 0 c' w (by omega)).mono ?_
    rintro e w' ⟨rfl, rfl⟩
    exact ⟨rfl, Below.refl _ _⟩
  · rcases hv.form with ⟨_, rfl⟩ | ⟨b, off, cap, rfl, hc, hb, hcs⟩
    · simp at h0
    rcases hu.form with ⟨_, rfl⟩ | ⟨b', off', cap', rfl, hc', hb', hcs'⟩
    · simp at h0
    refine (Try.slices_Equal_int b off zs.length cap b' off' zs.length cap' zs zs w (Nat.le_refl _) (Nat.le_refl _) hl hl (fun j hj => by rw [hcs j hj]; simp) (fun j hj => by rw [hcs' j hj]; simp)).mono ?_
    rintro e w' ⟨rfl, q, rfl⟩
    exact ⟨by simp, below_drewN (Below.refl _ _) q⟩
def orL (ok : Bool) (l : List Int) : List Int := if ok then l else []
def ListOk (ok : Bool) (l : List Int) (w : World) (e : Ending) (w' : World) : Prop :=
  ∃ v, e = .returned (.tuple #[v, .bool ok]) ∧ w'.ownsRow w.heap.size 3 1 v (orL ok l).length ((orL ok l).map (Value.int .i64)) ∧ Below w.heap.size w w'
theorem ListOr.ok {ok : Bool} {l : List Int} {w : World} {e : Ending} {w' : World} (h : ListOr ok l w e w') : ListOk ok l w e w' := by
  unfold ListOr at h
  cases ok
  · exact ⟨_, h.1, World.ownsRow_nil _ _ _ _, h.2⟩
  · obtain ⟨v, h1, h2, h3⟩ := h
    exact ⟨v, h1, h2, h3⟩
theorem orL_length (ok : Bool) (l : List Int) : (orL ok l).length ≤ l.length := by
  unfold orL
  split <;> simp
set_option maxHeartbeats 1000000 in
theorem alive_any (w : World) :
    Calls Try.prog 8 #[] w fun e w' => e = .returned (.bool true) ∧ Below w.heap.size w w' := by
  have AL := Lib.hid ((Below.refl w.heap.size w).alloc (Nat.le_refl _) (.cells #[.int .u64 0, .int .u64 0] 46))
  go_enter Try.func8, Try.ntmps8
  go_wp2_with fail
  refine (new_any _ [0, 0] (by decide) _ (IntsAt.fresh rfl)).mono ?_
  rintro e w1 ⟨b, rfl, hb, s1, b1⟩
  have S1 := Lib.hid s1
  have hbw : w.heap.size ≤ b := Nat.le_trans (by simp) hb
  have B1 := Lib.hid (below_step AL.out b1 (by simp))
  clear b1 s1
  go_wp2_with fail
  refine (shuffle_any b [0, 0] (by decide) 0 (by decide) 3 (by decide) _ S1.out).mono ?_
  rintro e w2 h2
  unfold Shuffled at h2
  rw [show okS [0, 0] 0 3 = true by decide] at h2
  obtain ⟨v, rfl, ho, s2, g2⟩ := h2
  have V2 := Lib.hid (show IntsAt .i64 w2.heap.size w2 v [1, 2, 0] from IntsAt.of_owns rfl ho)
  obtain ⟨a, c, rfl⟩ := ints_value V2.out
  have B2 := Lib.hid (B1.out.trans ((Grown.below g2 S1.out.1).mono hbw))
  clear ho s2 g2
  have AL2 := (Below.refl w2.heap.size w2).alloc (Nat.le_refl _) (.cells #[.int .i64 1, .int .i64 2, .int .i64 0] 3)
  have V3 := Lib.hid (V2.out.later AL2)
  have U3 := Lib.hid (IntsAt.fresh (q := .i64) (w := w2) (cs := #[.int .i64 1, .int .i64 2, .int .i64 0]) (e := 3) (zs := [1, 2, 0]) rfl)
  have B3 := Lib.hid (below_step B2.out AL2)
  clear AL2
  go_wp2_with fail
  refine (equal_same _ _ [1, 2, 0] (by decide) _ _ _ V3.out U3.out).mono ?_
  rintro e w4 ⟨rfl, b4⟩
  go_wp2_with fail
  go_ret
  exact ⟨rfl, below_step B3.out b4⟩
set_option maxHeartbeats 1000000 in
theorem walk_composes (v u : Value) (p q : List Int) (zp : InW p) (zq : InW q) (w : World) (hp : p.length ≤ maxLen) (hq : q.length ≤ maxLen) (hv : IntsAt .i64 w.heap.size w v p) (hu : IntsAt .i64 w.heap.size w u q) :
    Calls Try.prog 6 #[v, u] w fun e w' => e = .returned (.bool true) ∧ Below w.heap.size w w' := by
  obtain ⟨a, c, rfl⟩ := ints_value hv
  obtain ⟨a', c', rfl⟩ := ints_value hu
  unfold maxLen at hp hq
  by_cases h1 : (200 : Int) < p.length
  · clear hv hu
    go_enter Try.func6, Try.ntmps6
    go_wp2_with fail
    refine (alive_any _).mono ?_
    rintro e w1 ⟨rfl, b1⟩
    go_wp2_with fail
    go_ret
    exact ⟨rfl, b1⟩
  · by_cases h2 : (200 : Int) < q.length
    · clear hv hu
      go_enter Try.func6, Try.ntmps6
      go_wp2_with fail
      refine (alive_any _).mono ?_
      rintro e w1 ⟨rfl, b1⟩
      go_wp2_with fail
      go_ret
      exact ⟨rfl, b1⟩
    · have E1 := Lib.hid (fun W h k => compose_any (.slice a p.length c) (.slice a' q.length c') p q (by omega) (by omega) zp zq W h k)
      have E2 := Lib.hid (fun W h k => refCompose_any (.slice a p.length c) (.slice a' q.length c') p q (by omega) (by omega) zp zq W h k)
      have HV := Lib.hid hv
      have HU := Lib.hid hu
      have HL := Lib.hid (show (orL (okC p q) (compL p q)).length ≤ 1048576 from Nat.le_trans (orL_length _ _) (by rw [compL_length]; omega))
      clear hv hu
      go_enter Try.func6, Try.ntmps6
      go_wp2_with fail
      refine (E1.out _ HV.out HU.out).mono ?_
      intro e w1 h
      obtain ⟨v1, rfl, o1, b1⟩ := h.ok
      clear h
      have V1 := Lib.hid (ints_own o1)
      obtain ⟨a1, c1, rfl⟩ := own_value o1
      have B1 := Lib.hid b1
      have HV1 := Lib.hid (HV.out.later b1)
      have HU1 := Lib.hid (HU.out.later b1)
      clear o1 b1
      go_wp2_with fail
      refine (E2.out _ HV1.out HU1.out).mono ?_
      intro e w2 h
      obtain ⟨v2, rfl, o2, b2⟩ := h.ok
      clear h
      have V2 := Lib.hid (ints_own o2)
      obtain ⟨a2, c2, rfl⟩ := own_value o2
      have B2 := Lib.hid (below_step B1.out b2 )
      have V1 := Lib.hid (V1.out.later b2)
      clear o2 b2 E1 E2
      go_wp2_with fail
      refine (alive_any _).mono ?_
      rintro e w3 ⟨rfl, b3⟩
      have V2 := Lib.hid (V2.out.later b3)
      have V1 := Lib.hid (V1.out.later b3)
      have B3 := Lib.hid (below_step B2.out b3)
      clear b3
      generalize orL (okC p q) (compL p q) = zs at *
      generalize okC p q = ok at *
      go_wp2_with fail
      refine (equal_same _ _ zs (by have := HL.out; omega) _ _ _ V1.out V2.out).mono ?_
      rintro e w4 ⟨rfl, b4⟩
      have B4 := Lib.hid (below_step B3.out b4)
      clear b4
      go_wp2_with fail
      go_ret
      exact ⟨by first | rfl | (cases ok <;> rfl) | (simp; done), B4.out⟩
end Go.Proofs.Ytanfdajllhlcbaa
