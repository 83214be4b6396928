/- Layer 23: the walks of BoundFair and BoundTurns. -/
import Derived.Test.YtancgbggppaceaaBndI
namespace Go.Proofs.Ytancgbggppaceaa
open Go.RowKit Go.Maps
set_option linter.unusedVariables false
theorem equal_same (v u : Value) (zs : List Int) (hl : zs.length ≤ 9223372036854775807) (n₁ n₂ : Nat) (w : World) (hv : IntsAt .i64 n₁ w v zs) (hu : IntsAt .i64 n₂ w u zs) :
    Calls Try.prog 9 #[v, u] w fun e w' => e = .returned (.bool true) ∧ Below w.heap.size w w' := by
  rcases Nat.eq_zero_or_pos zs.length with h0 | h0
  · have hz := List.length_eq_zero_iff.1 h0
    subst hz
    obtain ⟨a, c, rfl⟩ := (show ∃ a c, v = .slice a 0 c by rcases hv.form with ⟨rfl, _⟩ | ⟨b, off, cap, rfl, _⟩ <;> exact ⟨_, _, rfl⟩)
    obtain ⟨a', c', rfl⟩ := (show ∃ a c, u = .slice a 0 c by rcases hu.form with ⟨rfl, _⟩ | ⟨b, off, cap, rfl, _⟩ <;> exact ⟨_, _, rfl⟩)
    refine (Try.slices_Equal_int_empty a a' c 0 c' w (by omega)).mono ?_
    rintro e w' ⟨rfl, rfl⟩
    exact ⟨rfl, Below.refl _ _⟩
  · rcases hv.form with ⟨_, rfl⟩ | ⟨b, off, cap, rfl, hc, hb, hcs⟩
    · simp at h0
    rcases hu.form with ⟨_, rfl⟩ | ⟨b', off', cap', rfl, hc', hb', hcs'⟩
    · simp at h0
    refine (Try.slices_Equal_int b off zs.length cap b' off' zs.length cap' zs zs w (Nat.le_refl _) (Nat.le_refl _) hl hl (fun j hj => by rw [hcs j hj]; simp) (fun j hj => by rw [hcs' j hj]; simp)).mono ?_
    rintro e w' ⟨rfl, q, rfl⟩
    exact ⟨by simp, below_drewN (Below.refl _ _) q⟩
theorem alive_a : fairB 2 [1, 0, 1, 0] = true := by decide
theorem alive_b : fairB 2 [0, 1, 1] = false := by decide
set_option maxHeartbeats 1000000 in
theorem alive_any (w : World) : Calls Try.prog 5 #[] w fun e w' => e = .returned (.bool true) ∧ Below w.heap.size w w' := by
  have I1 := IntsAt.fresh (q := .i64) (w := w) (cs := #[.int .i64 1, .int .i64 0, .int .i64 1, .int .i64 0]) (e := 3) (zs := [1, 0, 1, 0]) rfl
  have F1 := fair_any 2 _ [1, 0, 1, 0] (by decide) (by decide) _ I1
  rw [alive_a] at F1
  go_enter Try.func5, Try.ntmps5
  go_wp2_with fail
  refine F1.mono ?_
  rintro e w1 ⟨rfl, b1⟩
  have B1 := Lib.hid (((Below.refl w.heap.size w).alloc (Nat.le_refl _) (.cells #[.int .i64 1, .int .i64 0, .int .i64 1, .int .i64 0] 3)).trans (b1.mono (by simp)))
  have I2 := IntsAt.fresh (q := .i64) (w := w1) (cs := #[.int .i64 0, .int .i64 1, .int .i64 1]) (e := 3) (zs := [0, 1, 1]) rfl
  have F2 := fair_any 2 _ [0, 1, 1] (by decide) (by decide) _ I2
  rw [alive_b] at F2
  clear I1 F1 b1
  go_wp2_with fail
  refine F2.mono ?_
  rintro e w2 ⟨rfl, b2⟩
  have B2 := Lib.hid ((B1.out.alloc B1.out.size (.cells #[.int .i64 0, .int .i64 1, .int .i64 1] 3)).trans (b2.mono (by have := B1.out.size; simp; omega)))
  clear b2 F2 I2
  go_wp2_with fail
  go_ret
  exact ⟨rfl, B2.out⟩
set_option maxHeartbeats 1000000 in
theorem walk_fair (N : Int) (v : Value) (ps : List Int) (hw : ∀ z ∈ ps, -9223372036854775808 ≤ z ∧ z ≤ 9223372036854775807) (w : World) (hm : ps.length ≤ maxLen) (hv : IntsAt .i64 w.heap.size w v ps) :
    Calls Try.prog 3 #[.int .i64 N, v] w fun e w' => e = .returned (.bool true) ∧ Below w.heap.size w w' := by
  unfold maxLen at hm
  obtain ⟨a, c, rfl⟩ := ints_value hv
  have HV := Lib.hid hv
  have HW := Lib.hid hw
  clear hv hw
  by_cases hl : 400 < ps.length
  · go_enter Try.func3, Try.ntmps3
    go_wp2_with fail
    refine (alive_any _).mono ?_
    rintro e w1 ⟨rfl, b1⟩
    go_wp2_with fail
    go_ret
    exact ⟨rfl, b1⟩
  · go_enter Try.func3, Try.ntmps3
    go_wp2_with fail
    refine (alive_any _).mono ?_
    rintro e w1 ⟨rfl, b1⟩
    have V1 := Lib.hid (HV.out.later b1)
    have B1 := Lib.hid b1
    clear b1
    go_wp2_with fail
    refine (fair_any N _ ps (by omega) HW.out _ V1.out).mono ?_
    rintro e w2 ⟨rfl, b2⟩
    have V2 := Lib.hid (V1.out.later b2)
    have B2 := Lib.hid (below_step B1.out b2)
    clear b2
    go_wp2_with fail
    refine (refFair_any N _ ps (by omega) _ V2.out).mono ?_
    rintro e w3 ⟨rfl, rfl⟩
    have hsame : (fairB N ps == fairB N ps) = true := by simp
    generalize fairB N ps = F at *
    go_wp2_with fail
    go_ret
    exact ⟨by simp, B2.out⟩
theorem turnsR_len (N n : Int) (hn : n ≤ 2000) : (turnsR N n).length ≤ 2000 := by
  unfold turnsR
  split
  · rw [turnsL_length]; omega
  · simp
theorem turnsR_wf (N n : Int) : ∀ z ∈ turnsR N n, -9223372036854775808 ≤ z ∧ z ≤ 9223372036854775807 := by
  intro z hz
  unfold turnsR at hz
  split at hz
  · rename_i h
    obtain ⟨h0, h1⟩ := some_true h.1
    unfold turnsL at hz
    simp only [List.mem_map, List.mem_range] at hz
    obtain ⟨i, hi, rfl⟩ := hz
    have r0 := Int.emod_nonneg (i : Int) (show N ≠ 0 by omega)
    have r1 := Int.emod_lt_of_pos (i : Int) (show 0 < N by omega)
    omega
  · cases hz
theorem turnsR_fair (N n : Int) (h0 : 1 ≤ N) (h1 : N ≤ 64) : fairB N (turnsR N n) = true := by
  by_cases hn : 0 ≤ n
  · rw [turns_some ⟨by unfold someB; simp [h0, h1], hn⟩]
    exact fair_turns N _ h0 h1
  · rw [turns_none (by intro h; exact hn h.2)]
    rw [fair_some [] h0 h1]
    have : decide (((([] : List Int)).length : Int) < N) = true := by simp; omega
    rw [this]; rfl
set_option maxHeartbeats 2000000 in
theorem walk_turns (N n : Int) (hN : -9223372036854775808 ≤ N ∧ N ≤ 9223372036854775807) (hn : -9223372036854775808 ≤ n ∧ n ≤ 9223372036854775807) (w : World) :
    Calls Try.prog 4 #[.int .i64 N, .int .i64 n] w fun e w' => e = .returned (.bool true) ∧ Below w.heap.size w w' := by
  by_cases hl : 2000 < n
  · go_enter Try.func4, Try.ntmps4
    go_wp2_with fail
    refine (alive_any _).mono ?_
    rintro e w1 ⟨rfl, b1⟩
    go_wp2_with fail
    go_ret
    exact ⟨rfl, b1⟩
  · have E1 := Lib.hid (fun W => turns_any N n (by omega) hn.1 W)
    have E2 := Lib.hid (fun W => refTurns_any N n (by omega) hn.1 W)
    have HL := Lib.hid (turnsR_len N n (by omega))
    have HW := Lib.hid (turnsR_wf N n)
    have HF := Lib.hid (turnsR_fair N n)
    generalize turnsR N n = zs at *
    go_enter Try.func4, Try.ntmps4
    go_wp2_with fail
    refine (E1.out _).mono ?_
    rintro e w1 ⟨v, rfl, o1, b1⟩
    have V1 := Lib.hid (ints_own o1)
    obtain ⟨a, c, rfl⟩ := own_value o1
    have B1 := Lib.hid b1
    clear o1 b1
    go_wp2_with fail
    refine (alive_any _).mono ?_
    rintro e w2 ⟨rfl, b2⟩
    have V2 := Lib.hid (V1.out.later b2)
    have B2 := Lib.hid (below_step B1.out b2)
    clear b2
    go_wp2_with fail
    refine (E2.out _).mono ?_
    rintro e w3 ⟨u, rfl, o3, b3⟩
    have U3 := Lib.hid (ints_own o3)
    have V3 := Lib.hid (V2.out.later b3)
    have B3 := Lib.hid (below_step B2.out b3)
    clear o3 b3
    go_wp2_with fail
    refine (equal_same _ _ zs (by have := HL.out; omega) _ _ _ V3.out U3.out).mono ?_
    rintro e w4 ⟨rfl, b4⟩
    have V4 := Lib.hid (V3.out.later b4)
    have B4 := Lib.hid (below_step B3.out b4)
    clear b4
    by_cases hin : N < 1 ∨ 64 < N
    · have hin' : N < 1 ∨ ¬ N < 1 ∧ 64 < N := by omega
      clear hin
      rcases hin' with h | h
      all_goals
        go_wp2_with fail
        go_ret
        exact ⟨rfl, B4.out⟩
    · have h0 : 1 ≤ N := by omega
      have h1 : N ≤ 64 := by omega
      have HFF := Lib.hid (HF.out h0 h1)
      clear hin
      go_wp2_with fail
      refine (fair_any N _ zs (by have := HL.out; omega) HW.out _ V4.out).mono ?_
      rintro e w5 ⟨rfl, b5⟩
      rw [HFF.out]
      go_wp2_with fail
      go_ret
      exact ⟨rfl, below_step B4.out b5⟩
end Go.Proofs.Ytancgbggppaceaa
