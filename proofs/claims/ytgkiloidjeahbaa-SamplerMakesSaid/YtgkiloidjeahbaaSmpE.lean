/- Layer 12: the reference's Epoch, Batch, Shard, Micro. -/
import Derived.Test.YtgkiloidjeahbaaSmpD
namespace Go.Proofs.Ytgkiloidjeahbaa
open Go.RowKit
set_option linter.unusedVariables false
theorem cells_four (w : World) (x0 x1 x2 x3 : Value) (e : TypeId) : (w.alloc (.cells #[x0, x1, x2, x3] e)).cell? ⟨w.heap.size, 0, none⟩ = some x0 ∧ (w.alloc (.cells #[x0, x1, x2, x3] e)).cell? ⟨w.heap.size, 1, none⟩ = some x1 ∧ (w.alloc (.cells #[x0, x1, x2, x3] e)).cell? ⟨w.heap.size, 2, none⟩ = some x2 ∧ (w.alloc (.cells #[x0, x1, x2, x3] e)).cell? ⟨w.heap.size, 3, none⟩ = some x3 :=
  ⟨cell_new w _ e 0, cell_new w _ e 1, cell_new w _ e 2, cell_new w _ e 3⟩
theorem refEpoch_no (n size steps : Nat) (a : Option Addr) (k c : Nat) (t : Int) (ht : t < 0 ∨ (steps : Int) ≤ t) (w : World) :
    Calls Try.prog 29 #[.agg #[.int .i64 n, .int .i64 size, .int .i64 steps, .slice a k c], .int .i64 t] w fun e w' => e = .returned (.tuple #[.int .i64 0, .int .i64 0, .bool false]) ∧ Below w.heap.size w w' := by
  have AL := (Below.refl w.heap.size w).alloc (Nat.le_refl _) (.cells #[.int .i64 n, .int .i64 size, .int .i64 steps, .slice a k c] 33)
  obtain ⟨c0, c1, c2, c3⟩ := cells_four w (.int .i64 n) (.int .i64 size) (.int .i64 steps) (.slice a k c) 33
  by_cases h1 : t < 0
  · have g1 : decide (t < 0) = true := by simpa using h1
    go_enter Try.func29, Try.ntmps29
    go_wp2_with fail
    go_ret3
    exact ⟨rfl, by first | exact AL | exact AL.drew⟩
  · have g1 : decide (t < 0) = false := by simpa using h1
    have h2 : (steps : Int) ≤ t := by omega
    have g2 : decide ((steps : Int) ≤ t) = true := by simpa using h2
    clear ht
    go_enter Try.func29, Try.ntmps29
    go_wp2_with fail
    go_ret3
    exact ⟨rfl, by first | exact AL | exact AL.drew⟩
theorem refEpoch_yes (n size steps : Nat) (ords : List (List Int)) (hR : RightS n size steps ords) (a : Option Addr) (k c : Nat) (t : Nat) (ht : t < steps) (w : World) :
    Calls Try.prog 29 #[.agg #[.int .i64 n, .int .i64 size, .int .i64 steps, .slice a k c], .int .i64 t] w fun e w' => e = .returned (.tuple #[.int .i64 ((t / (n / size) : Nat) : Int), .int .i64 ((t % (n / size) : Nat) : Int), .bool true]) ∧ Below w.heap.size w w' := by
  have AL := (Below.refl w.heap.size w).alloc (Nat.le_refl _) (.cells #[.int .i64 n, .int .i64 size, .int .i64 steps, .slice a k c] 33)
  obtain ⟨c0, c1, c2, c3⟩ := cells_four w (.int .i64 n) (.int .i64 size) (.int .i64 steps) (.slice a k c) 33
  have he := hR.each.1
  have h20 := hR.st
  have h21 := hR.n20
  have h22 := hR.each.2.2
  have hs1 := hR.s1
  have hsn := hR.sn
  have g1 : decide ((t : Int) < 0) = false := by simp
  have g2 : decide ((steps : Int) ≤ t) = false := by simp; omega
  have g3 : (t : Int) < steps := by omega
  clear hR
  have td0 : Int.tdiv (n : Int) (size : Int) = ((n / size : Nat) : Int) := by rw [Int.tdiv_eq_ediv_of_nonneg (by omega)]; exact (Int.natCast_ediv _ _).symm
  have td : Int.tdiv (t : Int) ((n / size : Nat) : Int) = ((t / (n / size) : Nat) : Int) := by rw [Int.tdiv_eq_ediv_of_nonneg (by omega)]; exact (Int.natCast_ediv _ _).symm
  have tm : Int.tmod (t : Int) ((n / size : Nat) : Int) = ((t % (n / size) : Nat) : Int) := by rw [Int.tmod_eq_emod_of_nonneg (by omega)]; exact (Int.natCast_emod _ _).symm
  have l1 : t / (n / size) ≤ t := Nat.div_le_self _ _
  have l2 : t % (n / size) ≤ t := Nat.mod_le _ _
  generalize n / size = each at *
  generalize t / each = q at *
  generalize t % each = r at *
  have AD := Lib.hid (below_drewN AL)
  clear AL
  go_enter Try.func29, Try.ntmps29
  go_wp2_with fail
  go_quiet (fail)
  have B := Lib.hid (AD.out nq)
  generalize (World.drewN _ nq) = W2 at *
  go_wp2_with fail
  go_ret3
  exact ⟨rfl, B.out⟩
set_option maxHeartbeats 1000000 in
theorem refBatch_any (N n size steps : Nat) (ords : List (List Int)) (hR : RightS n size steps ords) (v : Value) (t : Int) (w : World) (hL : ListsAt N w v ords) :
    Calls Try.prog 12 #[.agg #[.int .i64 n, .int .i64 size, .int .i64 steps, v], .int .i64 t] w (PartOf (batchL n size steps ords t) w) := by
  obtain ⟨a, k, c, rfl⟩ : ∃ a k c, v = .slice a k c := by obtain ⟨us, h1, h2, h3⟩ := hL; obtain ⟨a, c, e⟩ := own_value h2; exact ⟨a, _, c, e⟩
  have AL := (Below.refl w.heap.size w).alloc (Nat.le_refl _) (.cells #[.int .i64 n, .int .i64 size, .int .i64 steps, .slice a k c] 33)
  have X := cells_four w (.int .i64 n) (.int .i64 size) (.int .i64 steps) (.slice a k c) 33
  by_cases hin : 0 ≤ t ∧ t < steps
  · obtain ⟨t, rfl⟩ := Int.eq_ofNat_of_zero_le hin.1
    have htn : t < steps := by omega
    have HE := Lib.hid (fun W => refEpoch_yes n size steps ords hR a k c t htn W)
    have H := Lib.hid (batchL_yes (n := n) (size := size) (ords := ords) htn)
    obtain ⟨p1, p2⟩ := hR.place htn
    have hat := hR.at p1
    have hn20 := hR.n20
    have hs1 := hR.s1
    have HL := Lib.hid (hL.later AL)
    have HAL := Lib.hid AL
    obtain ⟨c0, c1, c2, c3⟩ := X
    clear hR hin AL hL
    generalize t / (n / size) = q at *
    generalize t % (n / size) = r at *
    go_enter Try.func12, Try.ntmps12
    go_wp2_with fail
    refine (HE.out _).mono ?_
    rintro e w1 ⟨rfl, b1⟩
    obtain ⟨g, cg, eg, hg1, hg2, u, cu, ou⟩ := lists_at (HL.out.later b1) p1
    cases eg
    rw [hat] at ou
    obtain ⟨au, cap, rfl⟩ := own_value ou
    have iu := (show IntsAt .i64 w1.heap.size w1 (.slice au (ords[q]?.getD []).length cap) (ords[q]?.getD []) by rw [hat]; exact IntsAt.of_owns hat.symm ou)
    have hcap := iu.cap
    have IU := Lib.hid iu
    have B1 := Lib.hid (below_step HAL.out b1)
    have d1 := cell_step b1 c1
    have d3 := cell_step b1 c3
    clear ou HE HL b1 c0 c1 c2 c3 iu HAL
    generalize ords[q]?.getD [] = l at *
    subst hat
    have hmul : IntKind.i64.wrap ((r : Int) * size) = ((r * size : Nat) : Int) := by rw [Int.natCast_mul]; exact IntWalk.i64_in _ (by rw [← Int.natCast_mul]; omega)
    generalize r * size = lo at *
    have hsum : IntKind.i64.wrap ((lo : Int) + size) = (lo : Int) + size := IntWalk.i64_in _ (by omega)
    have hr := fun W => run_cut_lh (P := Try.prog) typeW sizeW au l.length cap .i64 .i64 lo (lo + size) (by omega) (by omega) (by omega) W
    rw [show ((lo : Int) + size).toNat = lo + size by omega, Int.toNat_natCast] at hr
    go_wp2_with fail
    go_quiet (fail)
    have B2 := Lib.hid (below_drewN B1.out nq)
    have V2 := Lib.hid ((IU.out.later (below_drewN (Below.refl _ w1) nq)).cut (l := lo) (h := lo + size) (by omega) (by omega))
    generalize (World.drewN _ nq) = W2 at *
    go_wp2_with fail
    go_ret
    rw [H.out]
    exact ⟨_, rfl, V2.out, B2.out⟩
  · have H := Lib.hid (batchL_no (n := n) (size := size) (steps := steps) (ords := ords) (t := t) (by omega))
    have HE := Lib.hid (fun W => refEpoch_no n size steps a k c t (by omega) W)
    have HAL := Lib.hid AL
    obtain ⟨c0, c1, c2, c3⟩ := X
    clear hin hL AL
    go_enter Try.func12, Try.ntmps12
    go_wp2_with fail
    refine (HE.out _).mono ?_
    rintro e w1 ⟨rfl, b1⟩
    have B1 := Lib.hid (below_step HAL.out b1)
    clear b1 HE HAL c0 c1 c2 c3
    go_wp2_with fail
    go_ret
    rw [H.out]
    exact ⟨_, rfl, IntsAt.nil, B1.out⟩
theorem refShard_any (N n size steps : Nat) (ords : List (List Int)) (hR : RightS n size steps ords) (v : Value) (t i k : Int) (hk0 : -9223372036854775808 ≤ k) (hk : k ≤ 1048576) (w : World) (hL : ListsAt N w v ords) :
    Calls Try.prog 16 #[.agg #[.int .i64 n, .int .i64 size, .int .i64 steps, v], .int .i64 t, .int .i64 i, .int .i64 k] w (PartOf (pieceL (batchL n size steps ords t) i k) w) := by
  obtain ⟨a, m, c, rfl⟩ : ∃ a k c, v = .slice a k c := by obtain ⟨us, h1, h2, h3⟩ := hL; obtain ⟨a, c, e⟩ := own_value h2; exact ⟨a, _, c, e⟩
  have AL := Lib.hid ((Below.refl w.heap.size w).alloc (Nat.le_refl _) (.cells #[.int .i64 n, .int .i64 size, .int .i64 steps, .slice a m c] 33))
  have HB := Lib.hid (refBatch_any N n size steps ords hR _ t _ (hL.later AL.out))
  have hl := batchL_length hR t
  obtain ⟨c0, c1, c2, c3⟩ := cells_four w (.int .i64 n) (.int .i64 size) (.int .i64 steps) (.slice a m c) 33
  clear hR hL
  generalize batchL n size steps ords t = l at *
  have HP := Lib.hid (fun v W h => refPiece_any v l hl i k hk0 hk W h)
  generalize pieceL l i k = p at *
  go_enter Try.func16, Try.ntmps16
  go_wp2_with fail
  refine HB.out.mono ?_
  rintro e w1 ⟨u, rfl, i1, b1⟩
  have HC := Lib.hid (HP.out u _ i1)
  have B1 := Lib.hid (below_step AL.out b1)
  obtain ⟨a1, c1', rfl⟩ := ints_value i1
  clear i1 b1 HB HP AL c0 c1 c2 c3
  go_wp2_with fail
  refine HC.out.mono ?_
  rintro e w2 ⟨u2, rfl, i2, b2⟩
  have B2 := Lib.hid (below_step B1.out b2)
  have I2 := Lib.hid i2
  obtain ⟨a2, c2', rfl⟩ := ints_value i2
  clear i2 b2
  go_wp2_with fail
  go_ret
  exact ⟨_, rfl, I2.out, B2.out⟩
theorem refMicro_any (N n size steps : Nat) (ords : List (List Int)) (hR : RightS n size steps ords) (v : Value) (t i k j m : Int) (hk0 : -9223372036854775808 ≤ k) (hk : k ≤ 1048576) (hm0 : -9223372036854775808 ≤ m) (hm : m ≤ 1048576) (w : World) (hL : ListsAt N w v ords) :
    Calls Try.prog 18 #[.agg #[.int .i64 n, .int .i64 size, .int .i64 steps, v], .int .i64 t, .int .i64 i, .int .i64 k, .int .i64 j, .int .i64 m] w (PartOf (pieceL (pieceL (batchL n size steps ords t) i k) j m) w) := by
  obtain ⟨a, x, c, rfl⟩ : ∃ a k c, v = .slice a k c := by obtain ⟨us, h1, h2, h3⟩ := hL; obtain ⟨a, c, e⟩ := own_value h2; exact ⟨a, _, c, e⟩
  have AL := Lib.hid ((Below.refl w.heap.size w).alloc (Nat.le_refl _) (.cells #[.int .i64 n, .int .i64 size, .int .i64 steps, .slice a x c] 33))
  have HB := Lib.hid (refShard_any N n size steps ords hR _ t i k hk0 hk _ (hL.later AL.out))
  have hl := batchL_length hR t
  obtain ⟨c0, c1, c2, c3⟩ := cells_four w (.int .i64 n) (.int .i64 size) (.int .i64 steps) (.slice a x c) 33
  clear hR hL
  generalize batchL n size steps ords t = l at *
  have hp := pieceL_length l i k
  generalize pieceL l i k = p at *
  have HP := Lib.hid (fun v W h => refPiece_any v p (by omega) j m hm0 hm W h)
  generalize pieceL p j m = q at *
  go_enter Try.func18, Try.ntmps18
  go_wp2_with fail
  refine HB.out.mono ?_
  rintro e w1 ⟨u, rfl, i1, b1⟩
  have HC := Lib.hid (HP.out u _ i1)
  have B1 := Lib.hid (below_step AL.out b1)
  obtain ⟨a1, c1', rfl⟩ := ints_value i1
  clear i1 b1 HB HP AL c0 c1 c2 c3
  go_wp2_with fail
  refine HC.out.mono ?_
  rintro e w2 ⟨u2, rfl, i2, b2⟩
  have B2 := Lib.hid (below_step B1.out b2)
  have I2 := Lib.hid i2
  obtain ⟨a2, c2', rfl⟩ := ints_value i2
  clear i2 b2
  go_wp2_with fail
  go_ret
  exact ⟨_, rfl, I2.out, B2.out⟩
end Go.Proofs.Ytgkiloidjeahbaa
