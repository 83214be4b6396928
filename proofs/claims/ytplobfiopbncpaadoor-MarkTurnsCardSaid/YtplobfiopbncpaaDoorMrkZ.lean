/- Layer 16: MarkTurns. -/
import Derived.Test.YtplobfiopbncpaaDoorMrkU
import Derived.Deep.Cut
import Derived.Deep.RegionHeld3
namespace Go.Proofs.YtplobfiopbncpaaDoor
open Go.RowKit
set_option linter.unusedVariables false
theorem trn_one (n : Int) : trnR 1 0 n = powR n ∧ trnI 1 0 n = powI n := by
  unfold trnR trnI
  rw [Int.zero_mul, Int.zero_mul, Int.one_mul, Int.one_mul, Int.sub_zero, Int.add_zero]
  exact ⟨rfl, rfl⟩
theorem trn_quarter (x y : Int) : trnR x y 1 = -y ∧ trnI x y 1 = x := by
  unfold trnR trnI
  rw [show powR 1 = 0 from rfl, show powI 1 = 1 from rfl]
  omega
theorem mkof_any (x y : Int) (hx : -2147483648 ≤ x ∧ x ≤ 2147483647) (hy : -2147483648 ≤ y ∧ y ≤ 2147483647) (w : World) :
    Calls Tryd.prog 15 #[.int .i32 x, .int .i32 y] w fun e w' => e = .returned (.agg #[.int .i64 x, .int .i64 y]) ∧ Below w.heap.size w w' := by
  have bA := (Below.refl w.heap.size w).alloc (Nat.le_refl _) (.cells #[.int .i64 x, .int .i64 y] 28)
  have T := Two.new w 28 (.int .i64 x) (.int .i64 y)
  have wx : IntKind.i64.wrap x = x := IntWalk.i64_in _ (by omega)
  have wy : IntKind.i64.wrap y = y := IntWalk.i64_in _ (by omega)
  go_enter Tryd.func15, Tryd.ntmps15
  go_wp2_with fail
  generalize w.alloc (.cells #[.int .i64 x, .int .i64 y] 28) = W at *
  obtain ⟨y0, y1⟩ := T.cells
  refine bodyPost_ret (v := .agg #[.int .i64 x, .int .i64 y]) ?_ rfl ⟨rfl, bA⟩
  clear T bA
  simp [results, Tryd.results15, y0, y1, go_sem]
set_option maxHeartbeats 4000000 in
theorem walk_turns (x y n : Int) (hx : -2147483648 ≤ x ∧ x ≤ 2147483647) (hy : -2147483648 ≤ y ∧ y ≤ 2147483647) (hn : -9223372036854775808 ≤ n ∧ n ≤ 9223372036854775807) (w : World) (ht : Pow10 w) :
    Calls Tryd.prog 4 #[.int .i32 x, .int .i32 y, .int .i64 n] w fun e w' => e = .returned (.bool true) ∧ Below w.heap.size w w' := by
  have HA := Lib.hid (fun W (hW : Below w.heap.size w W) => alive16_any W (ht.later hW))
  have HOF := Lib.hid (mkof_any x y hx hy w)
  have bx : x.natAbs ≤ 2147483648 := by omega
  have by' : y.natAbs ≤ 2147483648 := by omega
  have HG := Lib.hid (fun W => given_any x y (by omega) (by omega) W)
  have pR := powR_le n
  have pI := powI_le n
  have HG1 := Lib.hid (fun W => given_any (powR n) (powI n) (by omega) (by omega) W)
  have HT1 := Lib.hid (fun W => refTurn_any 1 0 n (by decide) (by decide) W)
  rw [(trn_one n).1, (trn_one n).2] at HT1
  have HU := Lib.hid (fun W => unit_any n hn W)
  have HT2 := Lib.hid (fun W => refTurn_any x y n (by omega) (by omega) W)
  have bt := rotL_le x y 2147483648 (by omega) (by omega) (n % 4).toNat
  rw [rotL_eq] at bt
  have HG2 := Lib.hid (fun W => given_any (trnR x y n) (trnI x y n) (by omega) (by omega) W)
  have HTU := Lib.hid (fun re im (hr : IsF re x) (hi : IsF im y) W => turn_any re im x y n hr hi (by omega) (by omega) hn W)
  have HTQ := Lib.hid (fun (j : Nat) re im (hr : IsF re (rotL x y j).1) (hi : IsF im (rotL x y j).2) W => turn_any re im (rotL x y j).1 (rotL x y j).2 1 hr hi (by have := (rotL_le x y 2147483648 (by omega) (by omega) j).1; omega) (by have := (rotL_le x y 2147483648 (by omega) (by omega) j).2; omega) (by decide) W)
  clear ht bx by' pR pI bt hn
  generalize powR n = pr at *
  generalize powI n = pi at *
  generalize trnR x y n = tr at *
  generalize trnI x y n = ti at *
  go_enter Tryd.func4, Tryd.ntmps4
  go_wp2_with fail
  refine HOF.out.mono ?_
  rintro e w0 ⟨rfl, b0⟩
  have TZ := Two.new w0 28 (.int .i64 x) (.int .i64 y)
  have bz := (Below.refl w0.heap.size w0).alloc (Nat.le_refl _) (.cells #[.int .i64 x, .int .i64 y] 28)
  have B1 := Lib.hid (b0.trans (bz.mono b0.size))
  clear HOF b0 bz hx hy
  go_upto_region 2 with fail
  generalize w0.alloc (.cells #[.int .i64 x, .int .i64 y] 28) = w1 at *
  generalize w0.heap.size = zb at *
  obtain ⟨c0, c1⟩ := TZ.cells
  refine wp_region_held_drew (S := fun w' => w'.cell? ⟨zb, 0, none⟩ = some (.int .i64 x) ∧ w'.cell? ⟨zb, 1, none⟩ = some (.int .i64 y) ∧ Below w1.heap.size w1 w') (by kernel_rfl) ?_ (fun hHeld => ?_)
  · exact ⟨c0, c1, (Below.refl _ _).drew⟩
  clear c0 c1
  refine wpAnyH_take (i := 0) (v := ?v1) rfl (by kernel_rfl) (by kernel_rfl) (by kernel_rfl) (fun _ _ _ h => h) (Or.inl ⟨by rfl, ?hy1⟩) (by assumption) ?rest1
  case hy1 => (intro w hSw; (try dsimp only at hSw); go_simp; (first | done | with_reducible rfl))
  simp only [Act.put, List.setIfInBounds_toArray, List.set_cons_zero, List.set_cons_succ, List.getElem_toArray, List.getElem_cons_zero]
  refine wpAnyH_take (i := 2) (v := ?v2) rfl (by kernel_rfl) (by kernel_rfl) (by kernel_rfl) (fun _ _ _ h => h) (Or.inl ⟨by rfl, ?hy2⟩) (by assumption) ?rest2
  case hy2 => (intro w hSw; (try dsimp only at hSw); go_simp; (first | done | with_reducible rfl))
  simp only [Act.put, List.setIfInBounds_toArray, List.set_cons_zero, List.set_cons_succ, List.getElem_toArray, List.getElem_cons_zero, List.getElem_cons_succ]
  refine wpAnyH_take (i := 3) (v := ?v3) rfl (by kernel_rfl) (by kernel_rfl) (by kernel_rfl) (fun _ _ _ h => h) (Or.inl ⟨by rfl, ?hy3⟩) (by assumption) ?rest3
  case hy3 => (intro w hSw; (try dsimp only at hSw); go_simp; (first | done | with_reducible rfl))
  simp only [Act.put, List.setIfInBounds_toArray, List.set_cons_zero, List.set_cons_succ, List.getElem_toArray, List.getElem_cons_zero, List.getElem_cons_succ]
  refine wpAnyH_ready (rs := [1]) (by kernel_rfl) (by simp) ?_
  refine AllReadyH.cons rfl (fun K hK => ?_) AllReadyH.nil
  simp only [List.getElem_toArray, List.getElem_cons_zero, List.getElem_cons_succ]
  go_simp
  go_at_call 16
  obtain ⟨h_0, h_1, h_B⟩ := hHeld
  refine (HU.out _).mono ?_
  rintro e w_k1 ⟨⟨r1, i1, rfl, f1, f2⟩, k1⟩
  have hb1 := Lib.hid (below_step h_B k1)
  go_wp2_with fail
  refine hK.out _ _ ⟨cell_step k1 h_0, cell_step k1 h_1, below_step h_B k1⟩ (fun hHeld => ?_)
  clear hK K h_0 h_1 h_B
  try simp only [Act.put, List.setIfInBounds_toArray, List.set_cons_zero, List.set_cons_succ, List.getElem_toArray, List.getElem_cons_zero, List.getElem_cons_succ]
  refine wpAnyH_ready (rs := [4]) (by kernel_rfl) (by simp) ?_
  refine AllReadyH.cons rfl (fun K hK => ?_) AllReadyH.nil
  simp only [List.getElem_toArray, List.getElem_cons_zero, List.getElem_cons_succ]
  go_simp
  go_at_call 17
  obtain ⟨h_0, h_1, h_B⟩ := hHeld
  refine (HT1.out _).mono ?_
  rintro e w_k2 ⟨rfl, k2⟩
  have hb2 := Lib.hid (below_step h_B k2)
  go_wp2_with fail
  refine hK.out _ _ ⟨cell_step k2 h_0, cell_step k2 h_1, below_step h_B k2⟩ (fun hHeld => ?_)
  clear hK K h_0 h_1 h_B
  try simp only [Act.put, List.setIfInBounds_toArray, List.set_cons_zero, List.set_cons_succ, List.getElem_toArray, List.getElem_cons_zero, List.getElem_cons_succ]
  refine wpAnyH_ready (rs := [5]) (by kernel_rfl) (by simp) ?_
  refine AllReadyH.cons rfl (fun K hK => ?_) AllReadyH.nil
  simp only [List.getElem_toArray, List.getElem_cons_zero, List.getElem_cons_succ]
  go_simp
  go_at_call 11
  obtain ⟨h_0, h_1, h_B⟩ := hHeld
  refine (HG1.out _).mono ?_
  rintro e w_k3 ⟨⟨r2, i2, rfl, f3, f4⟩, k3⟩
  have hb3 := Lib.hid (below_step h_B k3)
  go_wp2_with fail
  refine hK.out _ _ ⟨cell_step k3 h_0, cell_step k3 h_1, below_step h_B k3⟩ (fun hHeld => ?_)
  clear hK K h_0 h_1 h_B
  try simp only [Act.put, List.setIfInBounds_toArray, List.set_cons_zero, List.set_cons_succ, List.getElem_toArray, List.getElem_cons_zero, List.getElem_cons_succ]
  have o1 := ord_eq f1 f3 rfl
  have o2 := ord_eq f2 f4 rfl
  clear f1 f2 f3 f4
  refine wpAnyH_take (i := 6) (v := ?v4) rfl (by kernel_rfl) (by kernel_rfl) (by kernel_rfl) (fun _ _ _ h => h) (Or.inl ⟨by rfl, ?hy4⟩) (by assumption) ?rest4
  case hy4 => (intro w hSw; (try dsimp only at hSw); go_simp; (first | done | with_reducible rfl))
  simp only [Act.put, List.setIfInBounds_toArray, List.set_cons_zero, List.set_cons_succ, List.getElem_toArray, List.getElem_cons_zero, List.getElem_cons_succ]
  refine wpAnyH_take (i := 7) (v := ?v5) rfl (by kernel_rfl) (by kernel_rfl) (by kernel_rfl) (fun _ _ _ h => h) (Or.inl ⟨by rfl, ?hy5⟩) (by assumption) ?rest5
  case hy5 => (intro w hSw; (try dsimp only at hSw); go_simp; (first | done | with_reducible rfl))
  simp only [Act.put, List.setIfInBounds_toArray, List.set_cons_zero, List.set_cons_succ, List.getElem_toArray, List.getElem_cons_zero, List.getElem_cons_succ]
  refine wpAnyH_take (i := 8) (v := ?v6) rfl (by kernel_rfl) (by kernel_rfl) (by kernel_rfl) (fun _ _ _ h => h) (Or.inl ⟨by rfl, ?hy6⟩) (by assumption) ?rest6
  case hy6 => (intro w hSw; (try dsimp only at hSw); go_simp; (first | done | with_reducible rfl))
  simp only [Act.put, List.setIfInBounds_toArray, List.set_cons_zero, List.set_cons_succ, List.getElem_toArray, List.getElem_cons_zero, List.getElem_cons_succ]
  refine wpAnyH_take (i := 10) (v := ?v7) rfl (by kernel_rfl) (by kernel_rfl) (by kernel_rfl) (fun _ _ _ h => h) (Or.inl ⟨by rfl, ?hy7⟩) (by assumption) ?rest7
  case hy7 => (intro w hSw; (try dsimp only at hSw); go_simp; (first | done | with_reducible rfl))
  simp only [Act.put, List.setIfInBounds_toArray, List.set_cons_zero, List.set_cons_succ, List.getElem_toArray, List.getElem_cons_zero, List.getElem_cons_succ]
  refine wpAnyH_take (i := 12) (v := ?v8) rfl (by kernel_rfl) (by kernel_rfl) (by kernel_rfl) (fun _ _ _ h => h) (Or.inl ⟨by rfl, ?hy8⟩) (by assumption) ?rest8
  case hy8 => (intro w hSw; (try dsimp only at hSw); go_simp; (first | done | with_reducible rfl))
  simp only [Act.put, List.setIfInBounds_toArray, List.set_cons_zero, List.set_cons_succ, List.getElem_toArray, List.getElem_cons_zero, List.getElem_cons_succ]
  refine wpAnyH_take (i := 13) (v := ?v9) rfl (by kernel_rfl) (by kernel_rfl) (by kernel_rfl) (fun _ _ _ h => h) (Or.inl ⟨by rfl, ?hy9⟩) (by assumption) ?rest9
  case hy9 => (intro w hSw; (try dsimp only at hSw); go_simp; (first | done | with_reducible rfl))
  simp only [Act.put, List.setIfInBounds_toArray, List.set_cons_zero, List.set_cons_succ, List.getElem_toArray, List.getElem_cons_zero, List.getElem_cons_succ]
  refine wpAnyH_ready (rs := [9]) (by kernel_rfl) (by simp) ?_
  refine AllReadyH.cons rfl (fun K hK => ?_) AllReadyH.nil
  simp only [List.getElem_toArray, List.getElem_cons_zero, List.getElem_cons_succ]
  go_simp
  go_at_call 11
  obtain ⟨h_0, h_1, h_B⟩ := hHeld
  refine (HG.out _).mono ?_
  rintro e w_k4 ⟨⟨r3, i3, rfl, f1, f2⟩, k4⟩
  have hb4 := Lib.hid (below_step h_B k4)
  go_wp2_with fail
  refine hK.out _ _ ⟨cell_step k4 h_0, cell_step k4 h_1, below_step h_B k4⟩ (fun hHeld => ?_)
  clear hK K h_0 h_1 h_B
  try simp only [Act.put, List.setIfInBounds_toArray, List.set_cons_zero, List.set_cons_succ, List.getElem_toArray, List.getElem_cons_zero, List.getElem_cons_succ]
  refine wpAnyH_ready (rs := [11]) (by kernel_rfl) (by simp) ?_
  refine AllReadyH.cons rfl (fun K hK => ?_) AllReadyH.nil
  simp only [List.getElem_toArray, List.getElem_cons_zero, List.getElem_cons_succ]
  go_simp
  go_at_call 18
  obtain ⟨h_0, h_1, h_B⟩ := hHeld
  refine (HTU.out _ _ f1 f2 _).mono ?_
  rintro e w_k5 ⟨⟨r4, i4, rfl, f3, f4⟩, k5⟩
  have hb5 := Lib.hid (below_step h_B k5)
  go_wp2_with fail
  refine hK.out _ _ ⟨cell_step k5 h_0, cell_step k5 h_1, below_step h_B k5⟩ (fun hHeld => ?_)
  clear hK K h_0 h_1 h_B
  try simp only [Act.put, List.setIfInBounds_toArray, List.set_cons_zero, List.set_cons_succ, List.getElem_toArray, List.getElem_cons_zero, List.getElem_cons_succ]
  refine wpAnyH_ready (rs := [14]) (by kernel_rfl) (by simp) ?_
  refine AllReadyH.cons rfl (fun K hK => ?_) AllReadyH.nil
  simp only [List.getElem_toArray, List.getElem_cons_zero, List.getElem_cons_succ]
  go_simp
  go_at_call 17
  obtain ⟨h_0, h_1, h_B⟩ := hHeld
  refine (HT2.out _).mono ?_
  rintro e w_k6 ⟨rfl, k6⟩
  have hb6 := Lib.hid (below_step h_B k6)
  go_wp2_with fail
  refine hK.out _ _ ⟨cell_step k6 h_0, cell_step k6 h_1, below_step h_B k6⟩ (fun hHeld => ?_)
  clear hK K h_0 h_1 h_B
  try simp only [Act.put, List.setIfInBounds_toArray, List.set_cons_zero, List.set_cons_succ, List.getElem_toArray, List.getElem_cons_zero, List.getElem_cons_succ]
  refine wpAnyH_ready (rs := [15]) (by kernel_rfl) (by simp) ?_
  refine AllReadyH.cons rfl (fun K hK => ?_) AllReadyH.nil
  simp only [List.getElem_toArray, List.getElem_cons_zero, List.getElem_cons_succ]
  go_simp
  go_at_call 11
  obtain ⟨h_0, h_1, h_B⟩ := hHeld
  refine (HG2.out _).mono ?_
  rintro e w_k7 ⟨⟨r5, i5, rfl, f5, f6⟩, k7⟩
  have hb7 := Lib.hid (below_step h_B k7)
  go_wp2_with fail
  refine hK.out _ _ ⟨cell_step k7 h_0, cell_step k7 h_1, below_step h_B k7⟩ (fun hHeld => ?_)
  clear hK K h_0 h_1 h_B
  try simp only [Act.put, List.setIfInBounds_toArray, List.set_cons_zero, List.set_cons_succ, List.getElem_toArray, List.getElem_cons_zero, List.getElem_cons_succ]
  have o3 := ord_eq f3 f5 rfl
  have o4 := ord_eq f4 f6 rfl
  clear f1 f2 f3 f4 f5 f6
  refine wpAnyH_take (i := 16) (v := ?v10) rfl (by kernel_rfl) (by kernel_rfl) (by kernel_rfl) (fun _ _ _ h => h) (Or.inl ⟨by rfl, ?hy10⟩) (by assumption) ?rest10
  case hy10 => (intro w hSw; (try dsimp only at hSw); go_simp; (first | done | with_reducible rfl))
  simp only [Act.put, List.setIfInBounds_toArray, List.set_cons_zero, List.set_cons_succ, List.getElem_toArray, List.getElem_cons_zero, List.getElem_cons_succ]
  refine wpAnyH_take (i := 17) (v := ?v11) rfl (by kernel_rfl) (by kernel_rfl) (by kernel_rfl) (fun _ _ _ h => h) (Or.inl ⟨by rfl, ?hy11⟩) (by assumption) ?rest11
  case hy11 => (intro w hSw; (try dsimp only at hSw); go_simp; (first | done | with_reducible rfl))
  simp only [Act.put, List.setIfInBounds_toArray, List.set_cons_zero, List.set_cons_succ, List.getElem_toArray, List.getElem_cons_zero, List.getElem_cons_succ]
  refine wpAnyH_done (by kernel_rfl) ?_ _
  obtain ⟨_, _, h_B⟩ := hHeld
  have B2 := Lib.hid (B1.out.trans (h_B.mono B1.out.size))
  have TZ2 := Lib.hid (TZ.later h_B)
  clear h_B hb1 hb2 hb3 hb4 hb5 hb6 hb7 TZ B1 HT1 HU HT2 HG1 HG2 HTU o1 o2 o3 o4
  generalize w_k7 = w2 at *
  obtain ⟨c0, c1⟩ := TZ2.out.cells
  go_wp2_with fail
  refine (HG.out w2).mono ?_
  rintro e w3 ⟨⟨r0, i0, rfl, f1, f2⟩, b3⟩
  have X3 := Lib.hid (And.intro (show IsF r0 (rotL x y 0).1 from f1) (show IsF i0 (rotL x y 0).2 from f2))
  have TZ3 := Lib.hid (TZ2.out.later b3)
  have B3 := Lib.hid (B2.out.trans (b3.mono B2.out.size))
  clear f1 f2 b3 B2 TZ2 c0 c1
  go_wp2_with fail
  go_loopw [8, 32] (fun wv iv wr => ∃ j : Nat, ∃ re im : Nat, j ≤ 4 ∧ iv = .int .i64 j ∧ wv = .complex .f64 re im ∧ Hid (IsF re (rotL x y j).1 ∧ IsF im (rotL x y j).2) ∧ Hid (Two wr zb 28 (.int .i64 x) (.int .i64 y)) ∧ Hid (Below w.heap.size w wr)) (fun _ iv _ => 4 - (intOf iv).toNat)
  case atStart => exact ⟨0, _, _, by omega, rfl, rfl, X3, TZ3, B3⟩
  case round =>
    clear X3 TZ3 B3
    obtain ⟨j, re, im, hj, rfl, rfl, HX, HZ, HB⟩ := hrel
    by_cases hlt : j < 4
    · have i0 : (j : Int) < 4 := by omega
      have HQ := Lib.hid (HTQ.out j re im HX.out.1 HX.out.2 wr)
      rw [(trn_quarter _ _).1, (trn_quarter _ _).2] at HQ
      go_wp2_with fail
      refine HQ.out.mono ?_
      rintro e w5 ⟨⟨r5, i5, rfl, f1, f2⟩, b5⟩
      have X5 := Lib.hid (And.intro (show IsF r5 (rotL x y (j + 1)).1 from f1) (show IsF i5 (rotL x y (j + 1)).2 from f2))
      have Z5 := Lib.hid (HZ.out.later b5)
      have B5 := Lib.hid (HB.out.trans (b5.mono HB.out.size))
      clear f1 f2 b5 HX HZ HB HQ
      go_wp2_with fail
      go_roundw
      case rel => exact ⟨j + 1, _, _, by omega, by go_num, rfl, X5, Z5, B5⟩
      case measure => simp [intOf]; omega
    · have hj4 : j = 4 := by omega
      subst hj4
      rw [show rotL x y 4 = (x, y) by simp [rotL]] at HX
      have HA6 := Lib.hid (HA.out wr HB.out)
      clear HTQ HA
      go_wp2_with fail
      refine HA6.out.mono ?_
      rintro e w6 ⟨rfl, b6⟩
      have Z6 := HZ.out.later b6
      have B6 := Lib.hid (HB.out.trans (b6.mono HB.out.size))
      obtain ⟨c0, c1⟩ := Z6.cells
      clear HA6 HZ HB b6 Z6
      go_wp2_with fail
      refine (HG.out w6).mono ?_
      rintro e w7 ⟨⟨r7, i7, rfl, f1, f2⟩, b7⟩
      have o1 := ord_eq HX.out.1 f1 rfl
      have o2 := ord_eq HX.out.2 f2 rfl
      have B7 := B6.out.trans (b7.mono B6.out.size)
      clear f1 f2 b7 B6 HX HG
      go_wp2_with fail
      go_ret
      exact ⟨by first | rfl | (simp; done), B7⟩
end Go.Proofs.YtplobfiopbncpaaDoor
