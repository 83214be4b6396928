/- Layer 7: the reference's At. -/
import Derived.Test.YtinflmjombcolaaMatC
namespace Go.Proofs.Ytinflmjombcolaa
open Go.RowKit
set_option linter.unusedVariables false
set_option maxHeartbeats 2000000 in
theorem refAt_any (r c : Int) (v : Value) (zs : List Int) (i j : Int) (hm : zs.length ≤ 1048576) (w : World) (hv : IntsW .i64 w.heap.size w v zs) :
    Calls Try.prog 17 #[.agg #[.int .i64 r, .int .i64 c, v], .int .i64 i, .int .i64 j] w fun e w' => e = .returned (.int .i64 (atM r c zs i j)) ∧ Below w.heap.size w w' := by
  obtain ⟨a, cap, rfl⟩ := hv.value
  have AL := (Below.refl w.heap.size w).alloc (Nat.le_refl _) (.cells #[.int .i64 r, .int .i64 c, .slice a zs.length cap] 24)
  have c0 := cell_new w #[.int .i64 r, .int .i64 c, .slice a zs.length cap] 24 0
  have c1 := cell_new w #[.int .i64 r, .int .i64 c, .slice a zs.length cap] 24 1
  have c2 := cell_new w #[.int .i64 r, .int .i64 c, .slice a zs.length cap] 24 2
  have HCs := Lib.hid (And.intro (c0.trans rfl) (And.intro (c1.trans rfl) (c2.trans rfl)))
  have HR := Lib.hid (fun W => refRight_any r c a zs.length cap W)
  have HV := Lib.hid (hv.below AL)
  clear hv c0 c1 c2
  cases hr : rightB r c zs.length
  · have H := Lib.hid (show atM r c zs i j = 0 by unfold atM inM; rw [hr]; rfl)
    rw [hr] at HR
    clear hr
    go_enter Try.func17, Try.ntmps17
    go_wp2_with fail
    refine (HR.out _).mono ?_
    rintro e w1 ⟨rfl, b1⟩
    have B1 := Lib.hid (below_step AL b1)
    clear b1
    go_wp2_with fail
    go_ret
    exact ⟨by rw [H.out]; rfl, B1.out⟩
  · obtain ⟨r1, r2, c1, c2, hlen⟩ := right_some hr
    rw [hr] at HR
    by_cases hin : 0 ≤ i ∧ i < r ∧ 0 ≤ j ∧ j < c
    · obtain ⟨i0, i1, j0, j1⟩ := hin
      have H := Lib.hid (show atM r c zs i j = zs[(i * c + j).toNat]?.getD 0 by
        unfold atM inM
        rw [hr, show decide (0 ≤ i) = true by simpa using i0, show decide (i < r) = true by simpa using i1, show decide (0 ≤ j) = true by simpa using j0, show decide (j < c) = true by simpa using j1]
        rfl)
      obtain ⟨R, rfl⟩ := Int.eq_ofNat_of_zero_le (show 0 ≤ r by omega)
      obtain ⟨C, rfl⟩ := Int.eq_ofNat_of_zero_le (show 0 ≤ c by omega)
      obtain ⟨I, rfl⟩ := Int.eq_ofNat_of_zero_le i0
      obtain ⟨J, rfl⟩ := Int.eq_ofNat_of_zero_le j0
      have hlen' : zs.length = R * C := by
        have : (zs.length : Int) = ((R * C : Nat) : Int) := by rw [hlen]; simp
        omega
      have hk1 : (I + 1) * C ≤ R * C := Nat.mul_le_mul_right C (by omega)
      have hk2 : (I + 1) * C = I * C + C := Nat.succ_mul I C
      have hix : ((I : Int) * C + J).toNat = I * C + J := by
        have : (I : Int) * C = ((I * C : Nat) : Int) := by simp
        omega
      rw [hix] at H
      have hlt : I * C + J < zs.length := by omega
      rcases (HV.out.at (by omega)).form with ⟨_, e0⟩ | ⟨b, off, cap', e0, hcap, hb, hcs⟩
      · rw [e0] at hlt; cases hlt
      cases e0
      have HCS := Lib.hid (hcs _ hlt)
      have w1 : IntKind.i64.wrap ((I : Int) * C) = ((I * C : Nat) : Int) := by
        rw [show (I : Int) * C = ((I * C : Nat) : Int) by simp]
        exact IntWalk.i64_in _ (by omega)
      have e1 : (I : Int) * C = ((I * C : Nat) : Int) := by simp
      generalize hx : I * C = x at *
      have e2 : (x : Int) + J = ((x + J : Nat) : Int) := by simp
      generalize hy : x + J = idx at *
      have w2 : IntKind.i64.wrap ((x : Int) + J) = idx := by rw [e2]; exact IntWalk.i64_in _ (by omega)
      have hlt' : (idx : Int) < (zs.length : Int) := by omega
      clear hr hlen hlen' hcs hk1 hk2 hix
      have JC : (J : Int) < (C : Int) := j1
      clear hx hy
      go_enter Try.func17, Try.ntmps17
      go_wp2_with fail
      refine (HR.out _).mono ?_
      rintro e w1 ⟨rfl, b1⟩
      have B1 := Lib.hid (below_step AL b1)
      have d0 := cell_step b1 HCs.out.1
      have d1 := cell_step b1 HCs.out.2.1
      have d2 := cell_step b1 HCs.out.2.2
      have HCS1 := Lib.hid ((b1.cell (p := ⟨b, off + idx, none⟩) (Nat.lt_of_lt_of_le hb (by simp))).trans HCS.out)
      clear b1
      have hc2 := HCS1.out
      have hbl := World.block_lt_of_cell? _ _ hc2
      have B2 := B1
      generalize zs[idx]?.getD 0 = y at *
      go_wp2_with fail
      go_ret
      exact ⟨by rw [H.out]; rfl, B2.out⟩
    · have H := Lib.hid (show atM r c zs i j = 0 by
        unfold atM inM
        rw [if_neg]
        rw [hr]
        simp only [Bool.and_eq_true, decide_eq_true_eq]
        omega)
      have h' : i < 0 ∨ ¬ i < 0 ∧ r ≤ i ∨ ¬ i < 0 ∧ ¬ r ≤ i ∧ j < 0 ∨ ¬ i < 0 ∧ ¬ r ≤ i ∧ ¬ j < 0 ∧ c ≤ j := by omega
      clear hr hin hlen
      rcases h' with h | h | h | h
      all_goals
        go_enter Try.func17, Try.ntmps17
        go_wp2_with fail
        refine (HR.out _).mono ?_
        rintro e w1 ⟨rfl, b1⟩
        have B1 := Lib.hid (below_step AL b1)
        have d0 := cell_step b1 HCs.out.1
        have d1 := cell_step b1 HCs.out.2.1
        have d2 := cell_step b1 HCs.out.2.2
        clear b1
        go_wp2_with fail
        go_ret
        exact ⟨by rw [H.out]; rfl, B1.out⟩
end Go.Proofs.Ytinflmjombcolaa
