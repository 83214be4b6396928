/- Layer 12: at and share. -/
import Derived.Test.YtgkiloidjeahbaaSmpA
namespace Go.Proofs.Ytgkiloidjeahbaa
open Go.RowKit
set_option linter.unusedVariables false
theorem at_any (n k i : Nat) (hn : n ≤ 1048576) (hk : k ≤ 1048576) (hi : i < k) (w : World) :
    Calls Try.prog 40 #[.agg #[.int .i64 n, .int .i64 k], .int .i64 i] w fun e w' => e = .returned (.agg #[.int .i64 (bnd n k i), .int .i64 (bnd n k (i + 1))]) ∧ Below w.heap.size w w' := by
  have r0 := bnd_range (n : Int) k i (by omega) (by omega) (by omega)
  have r1 := bnd_range (n : Int) k (i + 1) (by omega) (by omega) (by omega)
  have bs := bnd_succ (n : Int) k i
  have be : bnd (n : Int) k i = i * ((n : Int) / k) + min (i : Int) ((n : Int) % k) := rfl
  have q0 := Int.ediv_nonneg (show (0 : Int) ≤ n by omega) (show (0 : Int) ≤ k by omega)
  have q1 := Int.ediv_le_self (a := (n : Int)) k (by omega)
  have m0 := Int.emod_nonneg (n : Int) (show (k : Int) ≠ 0 by omega)
  have m1 := Int.emod_lt_of_pos (n : Int) (show (0 : Int) < k by omega)
  have p0 := Int.mul_nonneg (show (0 : Int) ≤ i by omega) q0
  have td : Int.tdiv (n : Int) k = (n : Int) / k := Int.tdiv_eq_ediv_of_nonneg (by omega)
  have tm : Int.tmod (n : Int) k = (n : Int) % k := Int.tmod_eq_emod_of_nonneg (by omega)
  have AL := Lib.hid (below_drewN (((Below.refl w.heap.size w).alloc (Nat.le_refl _) (.cells #[.int .i64 n, .int .i64 k] 86)).alloc (by simp) (.cells #[.int .i64 0, .int .i64 0] 83)))
  generalize (n : Int) % k = r at *
  generalize (n : Int) / k = q at *
  go_enter Try.func40, Try.ntmps40
  go_wp2_with fail
  go_quiet (fail)
  have B := Lib.hid (AL.out nq)
  have sz : w.heap.size + 2 ≤ (World.drewN ((w.alloc (.cells #[.int .i64 n, .int .i64 k] 86)).alloc (.cells #[.int .i64 0, .int .i64 0] 83)) nq).heap.size := by show _ ≤ ((w.alloc _).alloc _).heap.size; simp
  have q01 := cells_two (w.alloc (.cells #[.int .i64 n, .int .i64 k] 86)) (.int .i64 0) (.int .i64 0) 83
  have qf := World.frozen?_alloc_new (w.alloc (.cells #[.int .i64 n, .int .i64 k] 86)) #[.int .i64 0, .int .i64 0] 83
  rw [World.size_alloc] at q01 qf
  have bd := below_drewN (Below.refl (w.heap.size + 2) ((w.alloc (.cells #[.int .i64 n, .int .i64 k] 86)).alloc (.cells #[.int .i64 0, .int .i64 0] 83))) nq
  have c0 := (bd.cell (p := ⟨w.heap.size + 1, 0, none⟩) (by show _ < _; simp)).trans q01.1
  have c1 := (bd.cell (p := ⟨w.heap.size + 1, 1, none⟩) (by show _ < _; simp)).trans q01.2
  have f0 := (bd.frozen (p := ⟨w.heap.size + 1, 0, none⟩) (by show _ < _; simp)).trans (qf 0)
  have f1 := (bd.frozen (p := ⟨w.heap.size + 1, 1, none⟩) (by show _ < _; simp)).trans (qf 1)
  clear AL q01 qf bd
  generalize (World.drewN _ nq) = W2 at *
  generalize hN : w.heap.size = N at *
  by_cases hg : (i : Int) < r
  · rw [if_pos hg] at bs
    have ST := stored2 (.int .i64 ((i : Int) * q + i)) (.int .i64 ((i : Int) * q + i + (q + 1))) c0 c1 f0 f1
    have BB := Lib.hid (B.out.trans (ST.2.2.2.2.mono (show N ≤ N + 1 by omega)))
    have S0 := Lib.hid ST.1
    have S1 := Lib.hid ST.2.1
    clear ST
    have E0 := Lib.hid (show bnd n k i = (i : Int) * q + i by omega)
    have E1 := Lib.hid (show bnd n k (i + 1) = (i : Int) * q + i + (q + 1) by omega)
    rw [E0.out] at r0
    rw [E1.out] at r1
    have mi : min (i : Int) r = i := by omega
    clear bs be
    go_wp2_with fail
    (try simp only [Exit.inBlock, Exit.then])
    have D0 := S0.out
    have D1 := S1.out
    refine bodyPost_ret (v := .agg #[.int .i64 ((i : Int) * q + i), .int .i64 ((i : Int) * q + i + (q + 1))]) (by simp [results, Try.results40, D0, D1, go_sem]) rfl ?_
    try rw [hN]
    rw [E0.out, E1.out]
    exact ⟨rfl, BB.out⟩
  · rw [if_neg hg, Int.add_zero] at bs
    have ST := stored2 (.int .i64 ((i : Int) * q + r)) (.int .i64 ((i : Int) * q + r + q)) c0 c1 f0 f1
    have BB := Lib.hid (B.out.trans (ST.2.2.2.2.mono (show N ≤ N + 1 by omega)))
    have S0 := Lib.hid ST.1
    have S1 := Lib.hid ST.2.1
    clear ST
    have E0 := Lib.hid (show bnd n k i = (i : Int) * q + r by omega)
    have E1 := Lib.hid (show bnd n k (i + 1) = (i : Int) * q + r + q by omega)
    rw [E0.out] at r0
    rw [E1.out] at r1
    have mi : min (i : Int) r = r := by omega
    clear bs be
    go_wp2_with fail
    (try simp only [Exit.inBlock, Exit.then])
    have D0 := S0.out
    have D1 := S1.out
    refine bodyPost_ret (v := .agg #[.int .i64 ((i : Int) * q + r), .int .i64 ((i : Int) * q + r + q)]) (by simp [results, Try.results40, D0, D1, go_sem]) rfl ?_
    try rw [hN]
    rw [E0.out, E1.out]
    exact ⟨rfl, BB.out⟩
theorem share_any (v : Value) (l : List Int) (hl : l.length ≤ 1048576) (i k : Int) (hk : k ≤ 1048576) (w : World) (hv : IntsAt .i64 w.heap.size w v l) :
    Calls Try.prog 30 #[v, .int .i64 i, .int .i64 k] w (PartOf (pieceL l i k) w) := by
  obtain ⟨a, c, rfl⟩ := ints_value hv
  by_cases h1 : i < 0
  · have g1 : decide (i < 0) = true := by simpa using h1
    have H := Lib.hid (pieceL_no (l := l) (i := i) (k := k) (.inl h1))
    clear hv
    go_enter Try.func30, Try.ntmps30
    go_wp2_with fail
    go_ret
    rw [H.out]
    exact ⟨_, rfl, IntsAt.nil, Below.refl _ _⟩
  · have g1 : decide (i < 0) = false := by simpa using h1
    obtain ⟨i, rfl⟩ := Int.eq_ofNat_of_zero_le (show 0 ≤ i by omega)
    by_cases h2 : k ≤ i
    · have g2 : decide (k ≤ (i : Int)) = true := by simpa using h2
      have H := Lib.hid (pieceL_no (l := l) (i := i) (k := k) (.inr h2))
      clear hv
      go_enter Try.func30, Try.ntmps30
      go_wp2_with fail
      go_ret
      rw [H.out]
      exact ⟨_, rfl, IntsAt.nil, Below.refl _ _⟩
    · have g2 : decide (k ≤ (i : Int)) = false := by simpa using h2
      have hik : (i : Int) < k := by omega
      have H := Lib.hid (pieceL_yes (l := l) hik)
      have R := pieceL_range (l := l) hik
      obtain ⟨k, rfl⟩ := Int.eq_ofNat_of_zero_le (show 0 ≤ k by omega)
      obtain ⟨x, hx⟩ := Int.eq_ofNat_of_zero_le R.1
      obtain ⟨y, hy⟩ := Int.eq_ofNat_of_zero_le (show 0 ≤ bnd l.length k (i + 1) by omega)
      have HA := Lib.hid (fun W => at_any l.length k i hl (by omega) (by omega) W)
      rw [hx, hy] at HA H R
      have HT := Lib.hid (fun W h => take_any (.slice a l.length c) l (by omega) x y (by omega) (by omega) W h)
      have HV := Lib.hid hv
      clear hv hx hy
      go_enter Try.func30, Try.ntmps30
      go_wp2_with fail
      refine (HA.out _).mono ?_
      rintro e w1 ⟨rfl, b1⟩
      have V1 := Lib.hid (HV.out.later b1)
      clear HA HV
      go_wp2_with fail
      refine (HT.out _ V1.out).mono ?_
      rintro e w2 ⟨u, rfl, i2, b2⟩
      have B2 := Lib.hid (below_step b1 b2)
      have I2 := Lib.hid i2
      clear i2 b1 b2
      go_wp2_with fail
      go_ret
      rw [H.out]
      exact ⟨_, rfl, I2.out, B2.out⟩
end Go.Proofs.Ytgkiloidjeahbaa
