/- Layer 11: ConfNeeds. -/
import Derived.Test.YtolmdhhbhohndaaCnfD
namespace Go.Proofs.Ytolmdhhbhohndaa
open Go.RowKit
set_option linter.unusedVariables false
set_option maxHeartbeats 4000000 in
theorem walk_needs (v : Value) (ss : List Int) (hm : ss.length ≤ maxLen) (sh ra mo wk ba mi st bu ch wi ca n : Int) (hn : -9223372036854775808 ≤ n ∧ n ≤ 9223372036854775807) (w : World) (hv : IntsW .i64 w.heap.size w v ss) :
    Calls Try.prog 5 #[.agg #[v, .int .i64 sh, .int .i64 ra, .int .i64 mo, .int .i64 wk, .int .i64 ba, .int .i64 mi, .int .i64 st, .int .i64 bu, .int .i64 ch, .int .i64 wi, .int .i64 ca], .int .i64 n] w fun e w' => e = .returned (.bool true) ∧ Below w.heap.size w w' := by
  have AL := (Below.refl w.heap.size w).alloc (Nat.le_refl _) (.cells #[v, .int .i64 sh, .int .i64 ra, .int .i64 mo, .int .i64 wk, .int .i64 ba, .int .i64 mi, .int .i64 st, .int .i64 bu, .int .i64 ch, .int .i64 wi, .int .i64 ca] 24)
  have C0 := Lib.hid (CellsAt.new w #[v, .int .i64 sh, .int .i64 ra, .int .i64 mo, .int .i64 wk, .int .i64 ba, .int .i64 mi, .int .i64 st, .int .i64 bu, .int .i64 ch, .int .i64 wi, .int .i64 ca] 24)
  have V0 := Lib.hid (hv.later AL)
  have A0 := Lib.hid AL
  obtain ⟨a, c, rfl⟩ := hv.value
  have HE := Lib.hid (fun W h => epochs_any (.slice a ss.length c) ss hm sh ra mo wk ba mi st bu ch wi ca n hn W h)
  have HRE := Lib.hid (fun W h => refEpochs_any (.slice a ss.length c) ss hm sh ra mo wk ba mi st bu ch wi ca n hn W h)
  have HN := Lib.hid (fun W h => needC_any (.slice a ss.length c) ss hm sh ra mo wk ba mi st bu ch wi ca n hn W h)
  have HRN := Lib.hid (fun W h => refNeedC_any (.slice a ss.length c) ss hm sh ra mo wk ba mi st bu ch wi ca n hn W h)
  clear hv AL
  unfold maxLen at hm
  by_cases h1 : 40 < (ss.length : Int)
  · have g1 : decide (40 < (ss.length : Int)) = true := by simpa using h1
    have g1' : 40 < ss.length := by omega
    go_enter Try.func5, Try.ntmps5
    go_wp2_with fail
    refine (alive_any _).mono ?_
    rintro e w1 ⟨rfl, b1⟩
    have B1 := Lib.hid (below_step A0.out b1)
    clear b1
    go_wp2_with fail
    go_ret
    exact ⟨rfl, B1.out⟩
  have g1 : decide (40 < (ss.length : Int)) = false := by simpa using h1
  have g1' : ¬ 40 < ss.length := by omega
  by_cases h2 : 5000 < st
  · have g2 : decide (5000 < st) = true := by simpa using h2
    go_enter Try.func5, Try.ntmps5
    go_wp2_with fail
    refine (alive_any _).mono ?_
    rintro e w1 ⟨rfl, b1⟩
    have B1 := Lib.hid (below_step A0.out b1)
    clear b1
    go_wp2_with fail
    go_ret
    exact ⟨rfl, B1.out⟩
  · have g2 : decide (5000 < st) = false := by simpa using h2
    generalize epC (codeC ss sh wk ba mi st bu ch wi ca) ba st n * needZ n = nd at *
    generalize epC (codeC ss sh wk ba mi st bu ch wi ca) ba st n = ep at *
    go_enter Try.func5, Try.ntmps5
    go_upto_region 3 with fail
    generalize (w.alloc (.cells #[.slice a ss.length c, .int .i64 sh, .int .i64 ra, .int .i64 mo, .int .i64 wk, .int .i64 ba, .int .i64 mi, .int .i64 st, .int .i64 bu, .int .i64 ch, .int .i64 wi, .int .i64 ca] 24)) = W at *
    refine wp_region_held_drew (S := fun w' => w'.cell? ⟨w.heap.size, 0, none⟩ = some (.slice a ss.length c) ∧ w'.cell? ⟨w.heap.size, 1, none⟩ = some (.int .i64 sh) ∧ w'.cell? ⟨w.heap.size, 2, none⟩ = some (.int .i64 ra) ∧ w'.cell? ⟨w.heap.size, 3, none⟩ = some (.int .i64 mo) ∧ w'.cell? ⟨w.heap.size, 4, none⟩ = some (.int .i64 wk) ∧ w'.cell? ⟨w.heap.size, 5, none⟩ = some (.int .i64 ba) ∧ w'.cell? ⟨w.heap.size, 6, none⟩ = some (.int .i64 mi) ∧ w'.cell? ⟨w.heap.size, 7, none⟩ = some (.int .i64 st) ∧ w'.cell? ⟨w.heap.size, 8, none⟩ = some (.int .i64 bu) ∧ w'.cell? ⟨w.heap.size, 9, none⟩ = some (.int .i64 ch) ∧ w'.cell? ⟨w.heap.size, 10, none⟩ = some (.int .i64 wi) ∧ w'.cell? ⟨w.heap.size, 11, none⟩ = some (.int .i64 ca) ∧ Below W.heap.size W w') (by kernel_rfl) ?_ (fun hHeld => ?_)
    · exact ⟨C0.out.2 0 _ rfl, C0.out.2 1 _ rfl, C0.out.2 2 _ rfl, C0.out.2 3 _ rfl, C0.out.2 4 _ rfl, C0.out.2 5 _ rfl, C0.out.2 6 _ rfl, C0.out.2 7 _ rfl, C0.out.2 8 _ rfl, C0.out.2 9 _ rfl, C0.out.2 10 _ rfl, C0.out.2 11 _ rfl, (Below.refl _ _).drew⟩
    refine wpAnyH_ready (rs := [0]) (by kernel_rfl) (by simp) ?_
    refine AllReadyH.cons rfl (fun K hK => ?_) AllReadyH.nil
    simp only [List.getElem_toArray, List.getElem_cons_zero]
    obtain ⟨h_0, h_1, h_2, h_3, h_4, h_5, h_6, h_7, h_8, h_9, h_10, h_11, h_B⟩ := hHeld
    go_simp
    go_at_call 6
    refine (alive_any _).mono ?_
    rintro e w_b1 ⟨rfl, b1⟩
    go_wp2_with fail
    refine hK.out _ _ ⟨cell_step b1 h_0, cell_step b1 h_1, cell_step b1 h_2, cell_step b1 h_3, cell_step b1 h_4, cell_step b1 h_5, cell_step b1 h_6, cell_step b1 h_7, cell_step b1 h_8, cell_step b1 h_9, cell_step b1 h_10, cell_step b1 h_11, below_step h_B b1⟩ (fun hHeld => ?_)
    clear hK K h_0 h_1 h_2 h_3 h_4 h_5 h_6 h_7 h_8 h_9 h_10 h_11 h_B b1
    try simp only [Act.put, List.setIfInBounds_toArray, List.set_cons_zero, List.set_cons_succ, List.getElem_toArray, List.getElem_cons_zero, List.getElem_cons_succ]
    refine wpAnyH_take (i := 1) (v := ?v1) rfl (by kernel_rfl) (by kernel_rfl) (by kernel_rfl) (fun _ _ _ h => h) (Or.inl ⟨by rfl, ?hy1⟩) (by assumption) ?rest1
    case hy1 => (intro w hSw; (try dsimp only at hSw); go_simp; (first | done | with_reducible rfl))
    simp only [Act.put, List.setIfInBounds_toArray, List.set_cons_zero, List.set_cons_succ, List.getElem_toArray, List.getElem_cons_zero, List.getElem_cons_succ]
    refine wpAnyH_take (i := 2) (v := ?v2) rfl (by kernel_rfl) (by kernel_rfl) (by kernel_rfl) (fun _ _ _ h => h) (Or.inl ⟨by rfl, ?hy2⟩) (by assumption) ?rest2
    case hy2 => (intro w hSw; (try dsimp only at hSw); go_simp; (first | done | with_reducible rfl))
    simp only [Act.put, List.setIfInBounds_toArray, List.set_cons_zero, List.set_cons_succ, List.getElem_toArray, List.getElem_cons_zero, List.getElem_cons_succ]
    refine wpAnyH_take (i := 3) (v := ?v3) rfl (by kernel_rfl) (by kernel_rfl) (by kernel_rfl) (fun _ _ _ h => h) (Or.inl ⟨by rfl, ?hy3⟩) (by assumption) ?rest3
    case hy3 => (intro w hSw; (try dsimp only at hSw); go_simp; (first | done | with_reducible rfl))
    simp only [Act.put, List.setIfInBounds_toArray, List.set_cons_zero, List.set_cons_succ, List.getElem_toArray, List.getElem_cons_zero, List.getElem_cons_succ]
    refine wpAnyH_take (i := 5) (v := ?v4) rfl (by kernel_rfl) (by kernel_rfl) (by kernel_rfl) (fun _ _ _ h => h) (Or.inl ⟨by rfl, ?hy4⟩) (by assumption) ?rest4
    case hy4 => (intro w hSw; (try dsimp only at hSw); go_simp; (first | done | with_reducible rfl))
    simp only [Act.put, List.setIfInBounds_toArray, List.set_cons_zero, List.set_cons_succ, List.getElem_toArray, List.getElem_cons_zero, List.getElem_cons_succ]
    refine wpAnyH_take (i := 6) (v := ?v5) rfl (by kernel_rfl) (by kernel_rfl) (by kernel_rfl) (fun _ _ _ h => h) (Or.inl ⟨by rfl, ?hy5⟩) (by assumption) ?rest5
    case hy5 => (intro w hSw; (try dsimp only at hSw); go_simp; (first | done | with_reducible rfl))
    simp only [Act.put, List.setIfInBounds_toArray, List.set_cons_zero, List.set_cons_succ, List.getElem_toArray, List.getElem_cons_zero, List.getElem_cons_succ]
    refine wpAnyH_ready (rs := [4]) (by kernel_rfl) (by simp) ?_
    refine AllReadyH.cons rfl (fun K hK => ?_) AllReadyH.nil
    simp only [List.getElem_toArray, List.getElem_cons_zero, List.getElem_cons_succ]
    obtain ⟨h_0, h_1, h_2, h_3, h_4, h_5, h_6, h_7, h_8, h_9, h_10, h_11, h_B⟩ := hHeld
    go_simp
    go_at_call 12
    refine (HE.out _ (V0.out.later h_B)).mono ?_
    rintro e w_b2 ⟨rfl, b2⟩
    go_wp2_with fail
    refine hK.out _ _ ⟨cell_step b2 h_0, cell_step b2 h_1, cell_step b2 h_2, cell_step b2 h_3, cell_step b2 h_4, cell_step b2 h_5, cell_step b2 h_6, cell_step b2 h_7, cell_step b2 h_8, cell_step b2 h_9, cell_step b2 h_10, cell_step b2 h_11, below_step h_B b2⟩ (fun hHeld => ?_)
    clear hK K h_0 h_1 h_2 h_3 h_4 h_5 h_6 h_7 h_8 h_9 h_10 h_11 h_B b2
    try simp only [Act.put, List.setIfInBounds_toArray, List.set_cons_zero, List.set_cons_succ, List.getElem_toArray, List.getElem_cons_zero, List.getElem_cons_succ]
    refine wpAnyH_ready (rs := [7]) (by kernel_rfl) (by simp) ?_
    refine AllReadyH.cons rfl (fun K hK => ?_) AllReadyH.nil
    simp only [List.getElem_toArray, List.getElem_cons_zero, List.getElem_cons_succ]
    obtain ⟨h_0, h_1, h_2, h_3, h_4, h_5, h_6, h_7, h_8, h_9, h_10, h_11, h_B⟩ := hHeld
    go_simp
    go_at_call 13
    refine (HRE.out _ (V0.out.later h_B)).mono ?_
    rintro e w_b3 ⟨rfl, b3⟩
    go_wp2_with fail
    refine hK.out _ _ ⟨cell_step b3 h_0, cell_step b3 h_1, cell_step b3 h_2, cell_step b3 h_3, cell_step b3 h_4, cell_step b3 h_5, cell_step b3 h_6, cell_step b3 h_7, cell_step b3 h_8, cell_step b3 h_9, cell_step b3 h_10, cell_step b3 h_11, below_step h_B b3⟩ (fun hHeld => ?_)
    clear hK K h_0 h_1 h_2 h_3 h_4 h_5 h_6 h_7 h_8 h_9 h_10 h_11 h_B b3
    try simp only [Act.put, List.setIfInBounds_toArray, List.set_cons_zero, List.set_cons_succ, List.getElem_toArray, List.getElem_cons_zero, List.getElem_cons_succ]
    refine wpAnyH_take (i := 8) (v := ?v6) rfl (by kernel_rfl) (by kernel_rfl) (by kernel_rfl) (fun _ _ _ h => h) (Or.inl ⟨by rfl, ?hy6⟩) (by assumption) ?rest6
    case hy6 => (intro w hSw; (try dsimp only at hSw); go_simp; (first | done | with_reducible rfl))
    simp only [Act.put, List.setIfInBounds_toArray, List.set_cons_zero, List.set_cons_succ, List.getElem_toArray, List.getElem_cons_zero, List.getElem_cons_succ]
    refine wpAnyH_take (i := 9) (v := ?v7) rfl (by kernel_rfl) (by kernel_rfl) (by kernel_rfl) (fun _ _ _ h => h) (Or.inl ⟨by rfl, ?hy7⟩) (by assumption) ?rest7
    case hy7 => (intro w hSw; (try dsimp only at hSw); go_simp; (first | done | with_reducible rfl))
    simp only [Act.put, List.setIfInBounds_toArray, List.set_cons_zero, List.set_cons_succ, List.getElem_toArray, List.getElem_cons_zero, List.getElem_cons_succ]
    refine wpAnyH_take (i := 10) (v := ?v8) rfl (by kernel_rfl) (by kernel_rfl) (by kernel_rfl) (fun _ _ _ h => h) (Or.inl ⟨by rfl, ?hy8⟩) (by assumption) ?rest8
    case hy8 => (intro w hSw; (try dsimp only at hSw); go_simp; (first | done | with_reducible rfl))
    simp only [Act.put, List.setIfInBounds_toArray, List.set_cons_zero, List.set_cons_succ, List.getElem_toArray, List.getElem_cons_zero, List.getElem_cons_succ]
    refine wpAnyH_take (i := 11) (v := ?v9) rfl (by kernel_rfl) (by kernel_rfl) (by kernel_rfl) (fun _ _ _ h => h) (Or.inl ⟨by rfl, ?hy9⟩) (by assumption) ?rest9
    case hy9 => (intro w hSw; (try dsimp only at hSw); go_simp; (first | done | with_reducible rfl))
    simp only [Act.put, List.setIfInBounds_toArray, List.set_cons_zero, List.set_cons_succ, List.getElem_toArray, List.getElem_cons_zero, List.getElem_cons_succ]
    refine wpAnyH_take (i := 12) (v := ?v10) rfl (by kernel_rfl) (by kernel_rfl) (by kernel_rfl) (fun _ _ _ h => h) (Or.inl ⟨by rfl, ?hy10⟩) (by assumption) ?rest10
    case hy10 => (intro w hSw; (try dsimp only at hSw); go_simp; (first | done | with_reducible rfl))
    simp only [Act.put, List.setIfInBounds_toArray, List.set_cons_zero, List.set_cons_succ, List.getElem_toArray, List.getElem_cons_zero, List.getElem_cons_succ]
    refine wpAnyH_take (i := 14) (v := ?v11) rfl (by kernel_rfl) (by kernel_rfl) (by kernel_rfl) (fun _ _ _ h => h) (Or.inl ⟨by rfl, ?hy11⟩) (by assumption) ?rest11
    case hy11 => (intro w hSw; (try dsimp only at hSw); go_simp; (first | done | with_reducible rfl))
    simp only [Act.put, List.setIfInBounds_toArray, List.set_cons_zero, List.set_cons_succ, List.getElem_toArray, List.getElem_cons_zero, List.getElem_cons_succ]
    refine wpAnyH_take (i := 15) (v := ?v12) rfl (by kernel_rfl) (by kernel_rfl) (by kernel_rfl) (fun _ _ _ h => h) (Or.inl ⟨by rfl, ?hy12⟩) (by assumption) ?rest12
    case hy12 => (intro w hSw; (try dsimp only at hSw); go_simp; (first | done | with_reducible rfl))
    simp only [Act.put, List.setIfInBounds_toArray, List.set_cons_zero, List.set_cons_succ, List.getElem_toArray, List.getElem_cons_zero, List.getElem_cons_succ]
    refine wpAnyH_ready (rs := [13]) (by kernel_rfl) (by simp) ?_
    refine AllReadyH.cons rfl (fun K hK => ?_) AllReadyH.nil
    simp only [List.getElem_toArray, List.getElem_cons_zero, List.getElem_cons_succ]
    obtain ⟨h_0, h_1, h_2, h_3, h_4, h_5, h_6, h_7, h_8, h_9, h_10, h_11, h_B⟩ := hHeld
    go_simp
    go_at_call 14
    refine (HN.out _ (V0.out.later h_B)).mono ?_
    rintro e w_b4 ⟨rfl, b4⟩
    go_wp2_with fail
    refine hK.out _ _ ⟨cell_step b4 h_0, cell_step b4 h_1, cell_step b4 h_2, cell_step b4 h_3, cell_step b4 h_4, cell_step b4 h_5, cell_step b4 h_6, cell_step b4 h_7, cell_step b4 h_8, cell_step b4 h_9, cell_step b4 h_10, cell_step b4 h_11, below_step h_B b4⟩ (fun hHeld => ?_)
    clear hK K h_0 h_1 h_2 h_3 h_4 h_5 h_6 h_7 h_8 h_9 h_10 h_11 h_B b4
    try simp only [Act.put, List.setIfInBounds_toArray, List.set_cons_zero, List.set_cons_succ, List.getElem_toArray, List.getElem_cons_zero, List.getElem_cons_succ]
    refine wpAnyH_ready (rs := [16]) (by kernel_rfl) (by simp) ?_
    refine AllReadyH.cons rfl (fun K hK => ?_) AllReadyH.nil
    simp only [List.getElem_toArray, List.getElem_cons_zero, List.getElem_cons_succ]
    obtain ⟨h_0, h_1, h_2, h_3, h_4, h_5, h_6, h_7, h_8, h_9, h_10, h_11, h_B⟩ := hHeld
    go_simp
    go_at_call 15
    refine (HRN.out _ (V0.out.later h_B)).mono ?_
    rintro e w_b5 ⟨rfl, b5⟩
    go_wp2_with fail
    refine hK.out _ _ ⟨cell_step b5 h_0, cell_step b5 h_1, cell_step b5 h_2, cell_step b5 h_3, cell_step b5 h_4, cell_step b5 h_5, cell_step b5 h_6, cell_step b5 h_7, cell_step b5 h_8, cell_step b5 h_9, cell_step b5 h_10, cell_step b5 h_11, below_step h_B b5⟩ (fun hHeld => ?_)
    clear hK K h_0 h_1 h_2 h_3 h_4 h_5 h_6 h_7 h_8 h_9 h_10 h_11 h_B b5
    try simp only [Act.put, List.setIfInBounds_toArray, List.set_cons_zero, List.set_cons_succ, List.getElem_toArray, List.getElem_cons_zero, List.getElem_cons_succ]
    refine wpAnyH_take (i := 17) (v := ?v13) rfl (by kernel_rfl) (by kernel_rfl) (by kernel_rfl) (fun _ _ _ h => h) (Or.inl ⟨by rfl, ?hy13⟩) (by assumption) ?rest13
    case hy13 => (intro w hSw; (try dsimp only at hSw); go_simp; (first | done | with_reducible rfl))
    simp only [Act.put, List.setIfInBounds_toArray, List.set_cons_zero, List.set_cons_succ, List.getElem_toArray, List.getElem_cons_zero, List.getElem_cons_succ]
    refine wpAnyH_take (i := 18) (v := ?v14) rfl (by kernel_rfl) (by kernel_rfl) (by kernel_rfl) (fun _ _ _ h => h) (Or.inl ⟨by rfl, ?hy14⟩) (by assumption) ?rest14
    case hy14 => (intro w hSw; (try dsimp only at hSw); go_simp; (first | done | with_reducible rfl))
    simp only [Act.put, List.setIfInBounds_toArray, List.set_cons_zero, List.set_cons_succ, List.getElem_toArray, List.getElem_cons_zero, List.getElem_cons_succ]
    refine wpAnyH_take (i := 19) (v := ?v15) rfl (by kernel_rfl) (by kernel_rfl) (by kernel_rfl) (fun _ _ _ h => h) (Or.inl ⟨by rfl, ?hy15⟩) (by assumption) ?rest15
    case hy15 => (intro w hSw; (try dsimp only at hSw); go_simp; (first | done | with_reducible rfl))
    simp only [Act.put, List.setIfInBounds_toArray, List.set_cons_zero, List.set_cons_succ, List.getElem_toArray, List.getElem_cons_zero, List.getElem_cons_succ]
    refine wpAnyH_done (by kernel_rfl) ?_ _
    obtain ⟨-, -, -, -, -, -, -, -, -, -, -, -, h_B⟩ := hHeld
    have BF := Lib.hid (below_step A0.out h_B)
    clear h_B
    go_wp2_with fail
    go_ret
    exact ⟨by first | rfl | (simp; done), BF.out⟩
end Go.Proofs.Ytolmdhhbhohndaa
