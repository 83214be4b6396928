/- Layer 15: segments and chunks. -/
import Derived.Test.YtpghiebedjogpaaBucD
namespace Go.Proofs.Ytpghiebedjogpaa
open Go.RowKit
set_option linter.unusedVariables false
theorem near_even (n k : Int) (hn1 : n ≤ 1048576) : Near (evenR n k) := by
  intro r hr
  by_cases h : 0 ≤ n ∧ 0 < k
  · rw [evenR_in n k h.1 h.2] at hr
    simp only [List.mem_map, List.mem_range] at hr
    obtain ⟨i, hi, rfl⟩ := hr
    have b0 := bnd_range n k i h.1 h.2 (by omega)
    have b1 := bnd_range n k (i + 1) h.1 h.2 (by omega)
    dsimp only
    omega
  · rw [evenR_out n k (by omega)] at hr
    cases hr
theorem near_blocks (n s : Int) (hn1 : n ≤ 1048576) : Near (blocksR n s) := by
  intro r hr
  by_cases h : 1 ≤ n ∧ 1 ≤ s
  · unfold blocksR blTo at hr
    simp only [List.mem_map, List.mem_range] at hr
    obtain ⟨i, hi, rfl⟩ := hr
    have p0 : 0 ≤ (i : Int) * s := Int.mul_nonneg (by omega) (by omega)
    have p1 : 0 ≤ ((i + 1 : Nat) : Int) * s := Int.mul_nonneg (by omega) (by omega)
    unfold bl
    dsimp only
    omega
  · rw [blocksR_out n s (by omega)] at hr
    cases hr
theorem evenR_le (n k : Int) (hk : k ≤ 1048576) : (evenR n k).length ≤ 1048576 := by
  by_cases h : 0 ≤ n ∧ 0 < k
  · rw [evenR_length n k h.1 h.2]; omega
  · rw [evenR_out n k (by omega)]; simp
def segR (lo hi k : Int) : List (Int × Int) := shiftR (evenR (hi - lo) k) lo
def chuR (lo hi s : Int) : List (Int × Int) := shiftR (blocksR (hi - lo) s) lo
theorem size_is (lo hi : Int) (h : lo ≤ hi) : sizeR (lo, hi) = hi - lo := by unfold sizeR; dsimp only; omega
theorem blocks_zero (s : Int) : blocksR 0 s = [] := blocksR_out 0 s (by omega)
set_option maxHeartbeats 1000000 in
theorem segments_any (lo hi k : Int) (h0 : 0 ≤ lo) (h1 : lo ≤ hi) (h2 : hi ≤ 1048576) (hk0 : -9223372036854775808 ≤ k) (hk1 : k ≤ 1048576) (w : World) :
    Calls Try.prog 15 #[.agg #[.int .i64 lo, .int .i64 hi], .int .i64 k] w (NewRanges 33 (segR lo hi k) w) := by
  have HN := Lib.hid (near_even (hi - lo) k (by omega))
  have HLn := Lib.hid (show (evenR (hi - lo) k).length ≤ 1048576 from evenR_le _ _ (by omega))
  have HE := Lib.hid (fun W => even_any (hi - lo) k (by omega) (by omega) (by omega) hk0 W)
  unfold segR
  generalize evenR (hi - lo) k = rs at *
  have AL := (Below.refl w.heap.size w).alloc (Nat.le_refl _) (.cells #[.int .i64 lo, .int .i64 hi] 33)
  have q := cells_two w (.int .i64 lo) (.int .i64 hi) 33
  have HS := Lib.hid (fun W => size_any lo hi (by omega) (by omega) (by omega) (by omega) W)
  rw [size_is lo hi h1] at HS
  go_enter Try.func15, Try.ntmps15
  go_wp2_with fail
  generalize w.alloc (.cells #[.int .i64 lo, .int .i64 hi] 33) = W0 at *
  refine wp_region_held_drew (S := fun w' => w'.cell? ⟨w.heap.size, 0, none⟩ = some (.int .i64 lo) ∧ w'.cell? ⟨w.heap.size, 1, none⟩ = some (.int .i64 hi) ∧ Below W0.heap.size W0 w') (by kernel_rfl) ?_ (fun hHeld => ?_)
  · exact ⟨q.1, q.2, (Below.refl _ _).drew⟩
  clear q
  refine wpAnyH_take (i := 0) (v := ?v1) rfl (by kernel_rfl) (by kernel_rfl) (by kernel_rfl) (fun _ _ _ h => h) (Or.inl ⟨by rfl, ?hy1⟩) (by assumption) ?rest1
  case hy1 => (intro w hSw; (try dsimp only at hSw); go_simp; (first | done | with_reducible rfl))
  simp only [Act.put, List.setIfInBounds_toArray, List.set_cons_zero, List.set_cons_succ, List.getElem_toArray, List.getElem_cons_zero]
  refine wpAnyH_take (i := 2) (v := ?v2) rfl (by kernel_rfl) (by kernel_rfl) (by kernel_rfl) (fun _ _ _ h => h) (Or.inl ⟨by rfl, ?hy2⟩) (by assumption) ?rest2
  case hy2 => (intro w hSw; (try dsimp only at hSw); go_simp; (first | done | with_reducible rfl))
  simp only [Act.put, List.setIfInBounds_toArray, List.set_cons_zero, List.set_cons_succ, List.getElem_toArray, List.getElem_cons_zero, List.getElem_cons_succ]
  refine wpAnyH_take (i := 4) (v := ?v3) rfl (by kernel_rfl) (by kernel_rfl) (by kernel_rfl) (fun _ _ _ h => h) (Or.inl ⟨by rfl, ?hy3⟩) (by assumption) ?rest3
  case hy3 => (intro w hSw; (try dsimp only at hSw); go_simp; (first | done | with_reducible rfl))
  simp only [Act.put, List.setIfInBounds_toArray, List.set_cons_zero, List.set_cons_succ, List.getElem_toArray, List.getElem_cons_zero, List.getElem_cons_succ]
  refine wpAnyH_take (i := 5) (v := ?v4) rfl (by kernel_rfl) (by kernel_rfl) (by kernel_rfl) (fun _ _ _ h => h) (Or.inl ⟨by rfl, ?hy4⟩) (by assumption) ?rest4
  case hy4 => (intro w hSw; (try dsimp only at hSw); go_simp; (first | done | with_reducible rfl))
  simp only [Act.put, List.setIfInBounds_toArray, List.set_cons_zero, List.set_cons_succ, List.getElem_toArray, List.getElem_cons_zero, List.getElem_cons_succ]
  refine wpAnyH_ready (rs := [1]) (by kernel_rfl) (by simp) ?_
  refine AllReadyH.cons rfl (fun K hK => ?_) AllReadyH.nil
  simp only [List.getElem_toArray, List.getElem_cons_zero, List.getElem_cons_succ]
  go_simp
  go_at_call 29
  obtain ⟨h_0, h_1, h_B⟩ := hHeld
  refine (HS.out _).mono ?_
  rintro e w_b1 ⟨rfl, b1⟩
  have B1 := Lib.hid (below_step h_B b1)
  go_wp2_with fail
  refine hK.out _ _ ⟨cell_step b1 h_0, cell_step b1 h_1, below_step h_B b1⟩ (fun hHeld => ?_)
  clear hK K h_0 h_1 h_B
  try simp only [Act.put, List.setIfInBounds_toArray, List.set_cons_zero, List.set_cons_succ, List.getElem_toArray, List.getElem_cons_zero, List.getElem_cons_succ]
  refine wpAnyH_ready (rs := [3]) (by kernel_rfl) (by simp) ?_
  refine AllReadyH.cons rfl (fun K hK => ?_) AllReadyH.nil
  simp only [List.getElem_toArray, List.getElem_cons_zero, List.getElem_cons_succ]
  go_simp
  go_at_call 28
  obtain ⟨h_0, h_1, h_B⟩ := hHeld
  refine (HE.out _).mono ?_
  rintro e w_b2 ⟨v, rfl, ho, b2⟩
  have HV := Lib.hid (RangesAt.new ho)
  obtain ⟨a, c, rfl⟩ := own_value ho
  have B2 := Lib.hid (below_step B1.out b2)
  clear ho
  go_wp2_with fail
  refine hK.out _ _ ⟨cell_step b2 h_0, cell_step b2 h_1, below_step h_B b2⟩ (fun hHeld => ?_)
  clear hK K h_0 h_1 h_B
  try simp only [Act.put, List.setIfInBounds_toArray, List.set_cons_zero, List.set_cons_succ, List.getElem_toArray, List.getElem_cons_zero, List.getElem_cons_succ]
  refine wpAnyH_ready (rs := [6]) (by kernel_rfl) (by simp) ?_
  refine AllReadyH.cons rfl (fun K hK => ?_) AllReadyH.nil
  simp only [List.getElem_toArray, List.getElem_cons_zero, List.getElem_cons_succ]
  go_simp
  go_at_call 27
  obtain ⟨h_0, h_1, h_B⟩ := hHeld
  refine (behind_any _ rs lo HLn.out HN.out (by omega) (by omega) _ HV.out).mono ?_
  rintro e w_b3 ⟨u, rfl, ho, b3⟩
  have HO := Lib.hid ho
  have B3 := Lib.hid (below_step B2.out b3)
  clear ho
  go_wp2_with fail
  refine hK.out _ _ ⟨cell_step b3 h_0, cell_step b3 h_1, below_step h_B b3⟩ (fun hHeld => ?_)
  clear hK K h_0 h_1 h_B
  try simp only [Act.put, List.setIfInBounds_toArray, List.set_cons_zero, List.set_cons_succ, List.getElem_toArray, List.getElem_cons_zero, List.getElem_cons_succ]
  refine wpAnyH_take (i := 7) (v := ?v5) rfl (by kernel_rfl) (by kernel_rfl) (by kernel_rfl) (fun _ _ _ h => h) (Or.inl ⟨by rfl, ?hy5⟩) (by assumption) ?rest5
  case hy5 => (intro w hSw; (try dsimp only at hSw); go_simp; (first | done | with_reducible rfl))
  simp only [Act.put, List.setIfInBounds_toArray, List.set_cons_zero, List.set_cons_succ, List.getElem_toArray, List.getElem_cons_zero, List.getElem_cons_succ]
  refine wpAnyH_done (by kernel_rfl) ?_ _
  go_wp2_with fail
  go_ret
  exact ⟨_, rfl, owns_mono (Nat.le_trans AL.size B2.out.size) HO.out, below_step AL B3.out⟩
set_option maxHeartbeats 1000000 in
theorem refSegments_any (lo hi k : Int) (h0 : 0 ≤ lo) (h1 : lo ≤ hi) (h2 : hi ≤ 1048576) (hk0 : -9223372036854775808 ≤ k) (hk1 : k ≤ 1048576) (w : World) :
    Calls Try.prog 16 #[.agg #[.int .i64 lo, .int .i64 hi], .int .i64 k] w (NewRanges 26 (segR lo hi k) w) := by
  have HN := Lib.hid (near_even (hi - lo) k (by omega))
  have HLn := Lib.hid (show (evenR (hi - lo) k).length ≤ 1048576 from evenR_le _ _ (by omega))
  have HE := Lib.hid (fun W => refEven_any (hi - lo) k (by omega) (by omega) (by omega) hk0 W)
  unfold segR
  generalize evenR (hi - lo) k = rs at *
  have AL := (Below.refl w.heap.size w).alloc (Nat.le_refl _) (.cells #[.int .i64 lo, .int .i64 hi] 26)
  have q := cells_two w (.int .i64 lo) (.int .i64 hi) 26
  go_enter Try.func16, Try.ntmps16
  go_wp2_with fail
  generalize w.alloc (.cells #[.int .i64 lo, .int .i64 hi] 26) = W0 at *
  have e1 : IntKind.i64.wrap (hi - lo) = hi - lo := IntWalk.i64_in _ (by omega)
  refine wp_region_held_drew (S := fun w' => w'.cell? ⟨w.heap.size, 0, none⟩ = some (.int .i64 lo) ∧ w'.cell? ⟨w.heap.size, 1, none⟩ = some (.int .i64 hi) ∧ Below W0.heap.size W0 w') (by kernel_rfl) ?_ (fun hHeld => ?_)
  · exact ⟨q.1, q.2, (Below.refl _ _).drew⟩
  clear q
  refine wpAnyH_take (i := 0) (v := ?v6) rfl (by kernel_rfl) (by kernel_rfl) (by kernel_rfl) (fun _ _ _ h => h) (Or.inl ⟨by rfl, ?hy6⟩) (by assumption) ?rest6
  case hy6 => (intro w hSw; (try dsimp only at hSw); go_simp; (first | done | with_reducible rfl))
  simp only [Act.put, List.setIfInBounds_toArray, List.set_cons_zero, List.set_cons_succ, List.getElem_toArray, List.getElem_cons_zero]
  refine wpAnyH_take (i := 1) (v := ?v7) rfl (by kernel_rfl) (by kernel_rfl) (by kernel_rfl) (fun _ _ _ h => h) (Or.inl ⟨by rfl, ?hy7⟩) (by assumption) ?rest7
  case hy7 => (intro w hSw; (try dsimp only at hSw); go_simp; (first | done | with_reducible rfl))
  simp only [Act.put, List.setIfInBounds_toArray, List.set_cons_zero, List.set_cons_succ, List.getElem_toArray, List.getElem_cons_zero, List.getElem_cons_succ]
  refine wpAnyH_take (i := 2) (v := ?v8) rfl (by kernel_rfl) (by kernel_rfl) (by kernel_rfl) (fun _ _ _ h => h) (Or.inl ⟨by rfl, ?hy8⟩) (by assumption) ?rest8
  case hy8 => (intro w hSw; (try dsimp only at hSw); go_simp; (first | done | with_reducible rfl))
  simp only [Act.put, List.setIfInBounds_toArray, List.set_cons_zero, List.set_cons_succ, List.getElem_toArray, List.getElem_cons_zero, List.getElem_cons_succ]
  refine wpAnyH_take (i := 3) (v := ?v9) rfl (by kernel_rfl) (by kernel_rfl) (by kernel_rfl) (fun _ _ _ h => h) (Or.inl ⟨by rfl, ?hy9⟩) (by assumption) ?rest9
  case hy9 => (intro w hSw; (try dsimp only at hSw); go_simp; (first | done | with_reducible rfl))
  simp only [Act.put, List.setIfInBounds_toArray, List.set_cons_zero, List.set_cons_succ, List.getElem_toArray, List.getElem_cons_zero, List.getElem_cons_succ]
  refine wpAnyH_take (i := 4) (v := ?v10) rfl (by kernel_rfl) (by kernel_rfl) (by kernel_rfl) (fun _ _ _ h => h) (Or.inl ⟨by rfl, ?hy10⟩) (by assumption) ?rest10
  case hy10 => (intro w hSw; (try dsimp only at hSw); go_simp; (first | done | with_reducible rfl))
  simp only [Act.put, List.setIfInBounds_toArray, List.set_cons_zero, List.set_cons_succ, List.getElem_toArray, List.getElem_cons_zero, List.getElem_cons_succ]
  refine wpAnyH_take (i := 5) (v := ?v11) rfl (by kernel_rfl) (by kernel_rfl) (by kernel_rfl) (fun _ _ _ h => h) (Or.inl ⟨by rfl, ?hy11⟩) (by assumption) ?rest11
  case hy11 => (intro w hSw; (try dsimp only at hSw); go_simp; (first | done | with_reducible rfl))
  simp only [Act.put, List.setIfInBounds_toArray, List.set_cons_zero, List.set_cons_succ, List.getElem_toArray, List.getElem_cons_zero, List.getElem_cons_succ]
  refine wpAnyH_take (i := 7) (v := ?v12) rfl (by kernel_rfl) (by kernel_rfl) (by kernel_rfl) (fun _ _ _ h => h) (Or.inl ⟨by rfl, ?hy12⟩) (by assumption) ?rest12
  case hy12 => (intro w hSw; (try dsimp only at hSw); go_simp; (first | done | with_reducible rfl))
  simp only [Act.put, List.setIfInBounds_toArray, List.set_cons_zero, List.set_cons_succ, List.getElem_toArray, List.getElem_cons_zero, List.getElem_cons_succ]
  refine wpAnyH_take (i := 8) (v := ?v13) rfl (by kernel_rfl) (by kernel_rfl) (by kernel_rfl) (fun _ _ _ h => h) (Or.inl ⟨by rfl, ?hy13⟩) (by assumption) ?rest13
  case hy13 => (intro w hSw; (try dsimp only at hSw); go_simp; (first | done | with_reducible rfl))
  simp only [Act.put, List.setIfInBounds_toArray, List.set_cons_zero, List.set_cons_succ, List.getElem_toArray, List.getElem_cons_zero, List.getElem_cons_succ]
  refine wpAnyH_ready (rs := [6]) (by kernel_rfl) (by simp) ?_
  refine AllReadyH.cons rfl (fun K hK => ?_) AllReadyH.nil
  simp only [List.getElem_toArray, List.getElem_cons_zero, List.getElem_cons_succ]
  go_simp
  go_at_call 31
  obtain ⟨h_0, h_1, h_B⟩ := hHeld
  refine (HE.out _).mono ?_
  rintro e w_b2 ⟨v, rfl, ho, b2⟩
  have HV := Lib.hid (RangesAt.new ho)
  obtain ⟨a, c, rfl⟩ := own_value ho
  have B2 := Lib.hid (below_step h_B b2)
  clear ho
  go_wp2_with fail
  refine hK.out _ _ ⟨cell_step b2 h_0, cell_step b2 h_1, below_step h_B b2⟩ (fun hHeld => ?_)
  clear hK K h_0 h_1 h_B
  try simp only [Act.put, List.setIfInBounds_toArray, List.set_cons_zero, List.set_cons_succ, List.getElem_toArray, List.getElem_cons_zero, List.getElem_cons_succ]
  refine wpAnyH_ready (rs := [9]) (by kernel_rfl) (by simp) ?_
  refine AllReadyH.cons rfl (fun K hK => ?_) AllReadyH.nil
  simp only [List.getElem_toArray, List.getElem_cons_zero, List.getElem_cons_succ]
  go_simp
  go_at_call 30
  obtain ⟨h_0, h_1, h_B⟩ := hHeld
  refine (refShifted_any _ rs lo HLn.out HN.out (by omega) (by omega) _ HV.out).mono ?_
  rintro e w_b3 ⟨u, rfl, ho, b3⟩
  have HO := Lib.hid ho
  have B3 := Lib.hid (below_step B2.out b3)
  have HB2 := Lib.hid b2
  clear ho
  go_wp2_with fail
  refine hK.out _ _ ⟨cell_step b3 h_0, cell_step b3 h_1, below_step h_B b3⟩ (fun hHeld => ?_)
  clear hK K h_0 h_1 h_B
  try simp only [Act.put, List.setIfInBounds_toArray, List.set_cons_zero, List.set_cons_succ, List.getElem_toArray, List.getElem_cons_zero, List.getElem_cons_succ]
  refine wpAnyH_take (i := 10) (v := ?v14) rfl (by kernel_rfl) (by kernel_rfl) (by kernel_rfl) (fun _ _ _ h => h) (Or.inl ⟨by rfl, ?hy14⟩) (by assumption) ?rest14
  case hy14 => (intro w hSw; (try dsimp only at hSw); go_simp; (first | done | with_reducible rfl))
  simp only [Act.put, List.setIfInBounds_toArray, List.set_cons_zero, List.set_cons_succ, List.getElem_toArray, List.getElem_cons_zero, List.getElem_cons_succ]
  refine wpAnyH_done (by kernel_rfl) ?_ _
  go_wp2_with fail
  go_ret
  exact ⟨_, rfl, owns_mono (Nat.le_trans AL.size B2.out.size) HO.out, below_step AL B3.out⟩
set_option maxHeartbeats 1000000 in
theorem chunks_any (lo hi k : Int) (h0 : 0 ≤ lo) (h1 : lo ≤ hi) (h2 : hi ≤ 1048576) (hk0 : -9223372036854775808 ≤ k) (hk1 : k ≤ 9223372036854775807) (w : World) :
    Calls Try.prog 17 #[.agg #[.int .i64 lo, .int .i64 hi], .int .i64 k] w (NewRanges 33 (chuR lo hi k) w) := by
  have HN := Lib.hid (near_blocks (hi - lo) k (by omega))
  have HLn := Lib.hid (show (blocksR (hi - lo) k).length ≤ 1048576 from blocksR_le _ _ (by omega))
  have HE := Lib.hid (fun W => blocks_any (hi - lo) k (by omega) (by omega) hk0 hk1 W)
  unfold chuR
  generalize blocksR (hi - lo) k = rs at *
  have AL := (Below.refl w.heap.size w).alloc (Nat.le_refl _) (.cells #[.int .i64 lo, .int .i64 hi] 33)
  have q := cells_two w (.int .i64 lo) (.int .i64 hi) 33
  have HS := Lib.hid (fun W => size_any lo hi (by omega) (by omega) (by omega) (by omega) W)
  rw [size_is lo hi h1] at HS
  go_enter Try.func17, Try.ntmps17
  go_wp2_with fail
  generalize w.alloc (.cells #[.int .i64 lo, .int .i64 hi] 33) = W0 at *
  refine wp_region_held_drew (S := fun w' => w'.cell? ⟨w.heap.size, 0, none⟩ = some (.int .i64 lo) ∧ w'.cell? ⟨w.heap.size, 1, none⟩ = some (.int .i64 hi) ∧ Below W0.heap.size W0 w') (by kernel_rfl) ?_ (fun hHeld => ?_)
  · exact ⟨q.1, q.2, (Below.refl _ _).drew⟩
  clear q
  refine wpAnyH_take (i := 0) (v := ?v15) rfl (by kernel_rfl) (by kernel_rfl) (by kernel_rfl) (fun _ _ _ h => h) (Or.inl ⟨by rfl, ?hy15⟩) (by assumption) ?rest15
  case hy15 => (intro w hSw; (try dsimp only at hSw); go_simp; (first | done | with_reducible rfl))
  simp only [Act.put, List.setIfInBounds_toArray, List.set_cons_zero, List.set_cons_succ, List.getElem_toArray, List.getElem_cons_zero]
  refine wpAnyH_take (i := 2) (v := ?v16) rfl (by kernel_rfl) (by kernel_rfl) (by kernel_rfl) (fun _ _ _ h => h) (Or.inl ⟨by rfl, ?hy16⟩) (by assumption) ?rest16
  case hy16 => (intro w hSw; (try dsimp only at hSw); go_simp; (first | done | with_reducible rfl))
  simp only [Act.put, List.setIfInBounds_toArray, List.set_cons_zero, List.set_cons_succ, List.getElem_toArray, List.getElem_cons_zero, List.getElem_cons_succ]
  refine wpAnyH_take (i := 4) (v := ?v17) rfl (by kernel_rfl) (by kernel_rfl) (by kernel_rfl) (fun _ _ _ h => h) (Or.inl ⟨by rfl, ?hy17⟩) (by assumption) ?rest17
  case hy17 => (intro w hSw; (try dsimp only at hSw); go_simp; (first | done | with_reducible rfl))
  simp only [Act.put, List.setIfInBounds_toArray, List.set_cons_zero, List.set_cons_succ, List.getElem_toArray, List.getElem_cons_zero, List.getElem_cons_succ]
  refine wpAnyH_take (i := 5) (v := ?v18) rfl (by kernel_rfl) (by kernel_rfl) (by kernel_rfl) (fun _ _ _ h => h) (Or.inl ⟨by rfl, ?hy18⟩) (by assumption) ?rest18
  case hy18 => (intro w hSw; (try dsimp only at hSw); go_simp; (first | done | with_reducible rfl))
  simp only [Act.put, List.setIfInBounds_toArray, List.set_cons_zero, List.set_cons_succ, List.getElem_toArray, List.getElem_cons_zero, List.getElem_cons_succ]
  refine wpAnyH_ready (rs := [1]) (by kernel_rfl) (by simp) ?_
  refine AllReadyH.cons rfl (fun K hK => ?_) AllReadyH.nil
  simp only [List.getElem_toArray, List.getElem_cons_zero, List.getElem_cons_succ]
  go_simp
  go_at_call 29
  obtain ⟨h_0, h_1, h_B⟩ := hHeld
  refine (HS.out _).mono ?_
  rintro e w_b1 ⟨rfl, b1⟩
  have B1 := Lib.hid (below_step h_B b1)
  go_wp2_with fail
  refine hK.out _ _ ⟨cell_step b1 h_0, cell_step b1 h_1, below_step h_B b1⟩ (fun hHeld => ?_)
  clear hK K h_0 h_1 h_B
  try simp only [Act.put, List.setIfInBounds_toArray, List.set_cons_zero, List.set_cons_succ, List.getElem_toArray, List.getElem_cons_zero, List.getElem_cons_succ]
  refine wpAnyH_ready (rs := [3]) (by kernel_rfl) (by simp) ?_
  refine AllReadyH.cons rfl (fun K hK => ?_) AllReadyH.nil
  simp only [List.getElem_toArray, List.getElem_cons_zero, List.getElem_cons_succ]
  go_simp
  go_at_call 24
  obtain ⟨h_0, h_1, h_B⟩ := hHeld
  refine (HE.out _).mono ?_
  rintro e w_b2 ⟨v, rfl, ho, b2⟩
  have HV := Lib.hid (RangesAt.new ho)
  obtain ⟨a, c, rfl⟩ := own_value ho
  have B2 := Lib.hid (below_step B1.out b2)
  clear ho
  go_wp2_with fail
  refine hK.out _ _ ⟨cell_step b2 h_0, cell_step b2 h_1, below_step h_B b2⟩ (fun hHeld => ?_)
  clear hK K h_0 h_1 h_B
  try simp only [Act.put, List.setIfInBounds_toArray, List.set_cons_zero, List.set_cons_succ, List.getElem_toArray, List.getElem_cons_zero, List.getElem_cons_succ]
  refine wpAnyH_ready (rs := [6]) (by kernel_rfl) (by simp) ?_
  refine AllReadyH.cons rfl (fun K hK => ?_) AllReadyH.nil
  simp only [List.getElem_toArray, List.getElem_cons_zero, List.getElem_cons_succ]
  go_simp
  go_at_call 27
  obtain ⟨h_0, h_1, h_B⟩ := hHeld
  refine (behind_any _ rs lo HLn.out HN.out (by omega) (by omega) _ HV.out).mono ?_
  rintro e w_b3 ⟨u, rfl, ho, b3⟩
  have HO := Lib.hid ho
  have B3 := Lib.hid (below_step B2.out b3)
  clear ho
  go_wp2_with fail
  refine hK.out _ _ ⟨cell_step b3 h_0, cell_step b3 h_1, below_step h_B b3⟩ (fun hHeld => ?_)
  clear hK K h_0 h_1 h_B
  try simp only [Act.put, List.setIfInBounds_toArray, List.set_cons_zero, List.set_cons_succ, List.getElem_toArray, List.getElem_cons_zero, List.getElem_cons_succ]
  refine wpAnyH_take (i := 7) (v := ?v19) rfl (by kernel_rfl) (by kernel_rfl) (by kernel_rfl) (fun _ _ _ h => h) (Or.inl ⟨by rfl, ?hy19⟩) (by assumption) ?rest19
  case hy19 => (intro w hSw; (try dsimp only at hSw); go_simp; (first | done | with_reducible rfl))
  simp only [Act.put, List.setIfInBounds_toArray, List.set_cons_zero, List.set_cons_succ, List.getElem_toArray, List.getElem_cons_zero, List.getElem_cons_succ]
  refine wpAnyH_done (by kernel_rfl) ?_ _
  go_wp2_with fail
  go_ret
  exact ⟨_, rfl, owns_mono (Nat.le_trans AL.size B2.out.size) HO.out, below_step AL B3.out⟩
set_option maxHeartbeats 1000000 in
theorem refChunks_any (lo hi k : Int) (h0 : 0 ≤ lo) (h1 : lo ≤ hi) (h2 : hi ≤ 1048576) (hk0 : -9223372036854775808 ≤ k) (hk1 : k ≤ 9223372036854775807) (w : World) :
    Calls Try.prog 18 #[.agg #[.int .i64 lo, .int .i64 hi], .int .i64 k] w (NewRanges 26 (chuR lo hi k) w) := by
  have HN := Lib.hid (near_blocks (hi - lo) k (by omega))
  have HLn := Lib.hid (show (blocksR (hi - lo) k).length ≤ 1048576 from blocksR_le _ _ (by omega))
  have HE := Lib.hid (fun W => refBlocks_any (hi - lo) k (by omega) (by omega) hk0 hk1 W)
  unfold chuR
  generalize blocksR (hi - lo) k = rs at *
  have AL := (Below.refl w.heap.size w).alloc (Nat.le_refl _) (.cells #[.int .i64 lo, .int .i64 hi] 26)
  have q := cells_two w (.int .i64 lo) (.int .i64 hi) 26
  go_enter Try.func18, Try.ntmps18
  go_wp2_with fail
  generalize w.alloc (.cells #[.int .i64 lo, .int .i64 hi] 26) = W0 at *
  have e1 : IntKind.i64.wrap (hi - lo) = hi - lo := IntWalk.i64_in _ (by omega)
  refine wp_region_held_drew (S := fun w' => w'.cell? ⟨w.heap.size, 0, none⟩ = some (.int .i64 lo) ∧ w'.cell? ⟨w.heap.size, 1, none⟩ = some (.int .i64 hi) ∧ Below W0.heap.size W0 w') (by kernel_rfl) ?_ (fun hHeld => ?_)
  · exact ⟨q.1, q.2, (Below.refl _ _).drew⟩
  clear q
  refine wpAnyH_take (i := 0) (v := ?v20) rfl (by kernel_rfl) (by kernel_rfl) (by kernel_rfl) (fun _ _ _ h => h) (Or.inl ⟨by rfl, ?hy20⟩) (by assumption) ?rest20
  case hy20 => (intro w hSw; (try dsimp only at hSw); go_simp; (first | done | with_reducible rfl))
  simp only [Act.put, List.setIfInBounds_toArray, List.set_cons_zero, List.set_cons_succ, List.getElem_toArray, List.getElem_cons_zero]
  refine wpAnyH_take (i := 1) (v := ?v21) rfl (by kernel_rfl) (by kernel_rfl) (by kernel_rfl) (fun _ _ _ h => h) (Or.inl ⟨by rfl, ?hy21⟩) (by assumption) ?rest21
  case hy21 => (intro w hSw; (try dsimp only at hSw); go_simp; (first | done | with_reducible rfl))
  simp only [Act.put, List.setIfInBounds_toArray, List.set_cons_zero, List.set_cons_succ, List.getElem_toArray, List.getElem_cons_zero, List.getElem_cons_succ]
  refine wpAnyH_take (i := 2) (v := ?v22) rfl (by kernel_rfl) (by kernel_rfl) (by kernel_rfl) (fun _ _ _ h => h) (Or.inl ⟨by rfl, ?hy22⟩) (by assumption) ?rest22
  case hy22 => (intro w hSw; (try dsimp only at hSw); go_simp; (first | done | with_reducible rfl))
  simp only [Act.put, List.setIfInBounds_toArray, List.set_cons_zero, List.set_cons_succ, List.getElem_toArray, List.getElem_cons_zero, List.getElem_cons_succ]
  refine wpAnyH_take (i := 3) (v := ?v23) rfl (by kernel_rfl) (by kernel_rfl) (by kernel_rfl) (fun _ _ _ h => h) (Or.inl ⟨by rfl, ?hy23⟩) (by assumption) ?rest23
  case hy23 => (intro w hSw; (try dsimp only at hSw); go_simp; (first | done | with_reducible rfl))
  simp only [Act.put, List.setIfInBounds_toArray, List.set_cons_zero, List.set_cons_succ, List.getElem_toArray, List.getElem_cons_zero, List.getElem_cons_succ]
  refine wpAnyH_take (i := 4) (v := ?v24) rfl (by kernel_rfl) (by kernel_rfl) (by kernel_rfl) (fun _ _ _ h => h) (Or.inl ⟨by rfl, ?hy24⟩) (by assumption) ?rest24
  case hy24 => (intro w hSw; (try dsimp only at hSw); go_simp; (first | done | with_reducible rfl))
  simp only [Act.put, List.setIfInBounds_toArray, List.set_cons_zero, List.set_cons_succ, List.getElem_toArray, List.getElem_cons_zero, List.getElem_cons_succ]
  refine wpAnyH_take (i := 5) (v := ?v25) rfl (by kernel_rfl) (by kernel_rfl) (by kernel_rfl) (fun _ _ _ h => h) (Or.inl ⟨by rfl, ?hy25⟩) (by assumption) ?rest25
  case hy25 => (intro w hSw; (try dsimp only at hSw); go_simp; (first | done | with_reducible rfl))
  simp only [Act.put, List.setIfInBounds_toArray, List.set_cons_zero, List.set_cons_succ, List.getElem_toArray, List.getElem_cons_zero, List.getElem_cons_succ]
  refine wpAnyH_take (i := 7) (v := ?v26) rfl (by kernel_rfl) (by kernel_rfl) (by kernel_rfl) (fun _ _ _ h => h) (Or.inl ⟨by rfl, ?hy26⟩) (by assumption) ?rest26
  case hy26 => (intro w hSw; (try dsimp only at hSw); go_simp; (first | done | with_reducible rfl))
  simp only [Act.put, List.setIfInBounds_toArray, List.set_cons_zero, List.set_cons_succ, List.getElem_toArray, List.getElem_cons_zero, List.getElem_cons_succ]
  refine wpAnyH_take (i := 8) (v := ?v27) rfl (by kernel_rfl) (by kernel_rfl) (by kernel_rfl) (fun _ _ _ h => h) (Or.inl ⟨by rfl, ?hy27⟩) (by assumption) ?rest27
  case hy27 => (intro w hSw; (try dsimp only at hSw); go_simp; (first | done | with_reducible rfl))
  simp only [Act.put, List.setIfInBounds_toArray, List.set_cons_zero, List.set_cons_succ, List.getElem_toArray, List.getElem_cons_zero, List.getElem_cons_succ]
  refine wpAnyH_ready (rs := [6]) (by kernel_rfl) (by simp) ?_
  refine AllReadyH.cons rfl (fun K hK => ?_) AllReadyH.nil
  simp only [List.getElem_toArray, List.getElem_cons_zero, List.getElem_cons_succ]
  go_simp
  go_at_call 26
  obtain ⟨h_0, h_1, h_B⟩ := hHeld
  refine (HE.out _).mono ?_
  rintro e w_b2 ⟨v, rfl, ho, b2⟩
  have HV := Lib.hid (RangesAt.new ho)
  obtain ⟨a, c, rfl⟩ := own_value ho
  have B2 := Lib.hid (below_step h_B b2)
  clear ho
  go_wp2_with fail
  refine hK.out _ _ ⟨cell_step b2 h_0, cell_step b2 h_1, below_step h_B b2⟩ (fun hHeld => ?_)
  clear hK K h_0 h_1 h_B
  try simp only [Act.put, List.setIfInBounds_toArray, List.set_cons_zero, List.set_cons_succ, List.getElem_toArray, List.getElem_cons_zero, List.getElem_cons_succ]
  refine wpAnyH_ready (rs := [9]) (by kernel_rfl) (by simp) ?_
  refine AllReadyH.cons rfl (fun K hK => ?_) AllReadyH.nil
  simp only [List.getElem_toArray, List.getElem_cons_zero, List.getElem_cons_succ]
  go_simp
  go_at_call 30
  obtain ⟨h_0, h_1, h_B⟩ := hHeld
  refine (refShifted_any _ rs lo HLn.out HN.out (by omega) (by omega) _ HV.out).mono ?_
  rintro e w_b3 ⟨u, rfl, ho, b3⟩
  have HO := Lib.hid ho
  have B3 := Lib.hid (below_step B2.out b3)
  have HB2 := Lib.hid b2
  clear ho
  go_wp2_with fail
  refine hK.out _ _ ⟨cell_step b3 h_0, cell_step b3 h_1, below_step h_B b3⟩ (fun hHeld => ?_)
  clear hK K h_0 h_1 h_B
  try simp only [Act.put, List.setIfInBounds_toArray, List.set_cons_zero, List.set_cons_succ, List.getElem_toArray, List.getElem_cons_zero, List.getElem_cons_succ]
  refine wpAnyH_take (i := 10) (v := ?v28) rfl (by kernel_rfl) (by kernel_rfl) (by kernel_rfl) (fun _ _ _ h => h) (Or.inl ⟨by rfl, ?hy28⟩) (by assumption) ?rest28
  case hy28 => (intro w hSw; (try dsimp only at hSw); go_simp; (first | done | with_reducible rfl))
  simp only [Act.put, List.setIfInBounds_toArray, List.set_cons_zero, List.set_cons_succ, List.getElem_toArray, List.getElem_cons_zero, List.getElem_cons_succ]
  refine wpAnyH_done (by kernel_rfl) ?_ _
  go_wp2_with fail
  go_ret
  exact ⟨_, rfl, owns_mono (Nat.le_trans AL.size B2.out.size) HO.out, below_step AL B3.out⟩
end Go.Proofs.Ytpghiebedjogpaa
