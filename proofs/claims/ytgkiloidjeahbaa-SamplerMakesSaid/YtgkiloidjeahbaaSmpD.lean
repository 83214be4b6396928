/- Layer 12: batch, Batch, Shard, Micro. -/
import Derived.Test.YtgkiloidjeahbaaSmpC
import Derived.Deep.RegionHeld3
namespace Go.Proofs.Ytgkiloidjeahbaa
open Go.RowKit
set_option linter.unusedVariables false
theorem lists_at {N : Nat} {W : World} {v : Value} {ls : List (List Int)} (h : ListsAt N W v ls) {t : Nat} (ht : t < ls.length) :
    ∃ g c, v = .slice (some ⟨g, 0, none⟩) ls.length c ∧ N ≤ g ∧ g < W.heap.size ∧ ∃ u, W.cell? ⟨g, t, none⟩ = some u ∧ W.ownsRow N 3 1 u (ls[t]?.getD []).length ((ls[t]?.getD []).map (Value.int .i64)) := by
  obtain ⟨us, h1, h2, h3⟩ := h
  obtain ⟨g, c, rfl, hg1, hg2⟩ := own_some h2 (by omega)
  have hc := h2.cellAt t (by omega)
  have hr := h3 t ht
  rw [List.getElem?_eq_getElem (by omega)] at hc hr
  exact ⟨g, c, rfl, hg1, hg2, _, hc, hr⟩
set_option maxHeartbeats 1000000 in
theorem batch_low (b n size steps : Nat) (ords : List (List Int)) (hR : RightS n size steps ords) (t : Int) (ht : -9223372036854775808 ≤ t ∧ t ≤ 9223372036854775807) (w : World) (h : SampAt b w n size steps ords) :
    Calls Try.prog 28 #[.pointer (some ⟨b, 0, none⟩), .int .i64 t] w (PartOf (batchL n size steps ords t) w) := by
  by_cases hin : 0 ≤ t ∧ t < steps
  · obtain ⟨t, rfl⟩ := Int.eq_ofNat_of_zero_le hin.1
    have htn : t < steps := by omega
    have HE := Lib.hid (epoch_yes b n size steps ords hR t htn w h)
    have H := Lib.hid (batchL_yes (n := n) (size := size) (ords := ords) htn)
    obtain ⟨p1, p2⟩ := hR.place htn
    have hat := hR.at p1
    have hn20 := hR.n20
    have hs1 := hR.s1
    have HS := Lib.hid h
    clear hR hin h ht
    generalize t / (n / size) = q at *
    generalize t % (n / size) = r at *
    go_enter Try.func28, Try.ntmps28
    go_wp2_with fail
    refine HE.out.mono ?_
    rintro e w1 ⟨rfl, b1⟩
    obtain ⟨hb, v, c0, c1, c2, c3, hL⟩ := HS.out.later b1
    obtain ⟨g, c, rfl, hg1, hg2, u, cu, ou⟩ := lists_at hL p1
    rw [hat] at ou
    obtain ⟨au, cap, rfl⟩ := own_value ou
    have IU := Lib.hid (show IntsAt .i64 w1.heap.size w1 (.slice au (ords[q]?.getD []).length cap) (ords[q]?.getD []) by rw [hat]; exact IntsAt.of_owns hat.symm ou)
    have B1 := Lib.hid b1
    clear hL ou HE HS b1 c2 c3
    generalize ords[q]?.getD [] = l at *
    subst hat
    have hmul : IntKind.i64.wrap ((r : Int) * size) = ((r * size : Nat) : Int) := by rw [Int.natCast_mul]; exact IntWalk.i64_in _ (by rw [← Int.natCast_mul]; omega)
    have HT := Lib.hid (fun W h => take_any (.slice au l.length cap) l (by omega) (r * size) (r * size + size) (by omega) (by omega) W h)
    generalize r * size = lo at *
    rw [Int.natCast_add] at HT
    go_upto_region 5 with fail
    have hsum : IntKind.i64.wrap ((lo : Int) + size) = (lo : Int) + size := IntWalk.i64_in _ (by omega)
    refine wp_region_held_drew (S := fun w' => w'.cell? ⟨b, 0, none⟩ = some (.slice (some ⟨g, 0, none⟩) ords.length c) ∧ w'.cell? ⟨b, 1, none⟩ = some (.int .i64 size) ∧ w'.cell? ⟨g, q, none⟩ = some (.slice au l.length cap) ∧ Below w1.heap.size w1 w') (by kernel_rfl) ?_ (fun hHeld => ?_)
    · exact ⟨c0, c1, cu, (Below.refl _ _).drew⟩
    refine wpAnyH_take (i := 0) (v := ?v1) rfl (by kernel_rfl) (by kernel_rfl) (by kernel_rfl) (fun _ _ _ h => h) (Or.inl ⟨by rfl, ?hy1⟩) (by assumption) ?rest1
    case hy1 => (intro w hSw; (try dsimp only at hSw); go_simp; (first | done | with_reducible rfl))
    simp only [Act.put, List.setIfInBounds_toArray, List.set_cons_zero, List.set_cons_succ, List.getElem_toArray, List.getElem_cons_zero]
    refine wpAnyH_take (i := 1) (v := ?v2) rfl (by kernel_rfl) (by kernel_rfl) (by kernel_rfl) (fun _ _ _ h => h) (Or.inl ⟨by rfl, ?hy2⟩) (by assumption) ?rest2
    case hy2 => (intro w hSw; (try dsimp only at hSw); go_simp; (first | done | with_reducible rfl))
    simp only [Act.put, List.setIfInBounds_toArray, List.set_cons_zero, List.set_cons_succ, List.getElem_toArray, List.getElem_cons_zero, List.getElem_cons_succ]
    refine wpAnyH_take (i := 2) (v := ?v3) rfl (by kernel_rfl) (by kernel_rfl) (by kernel_rfl) (fun _ _ _ h => h) (Or.inl ⟨by rfl, ?hy3⟩) (by assumption) ?rest3
    case hy3 => (intro w hSw; (try dsimp only at hSw); go_simp; (first | done | with_reducible rfl))
    simp only [Act.put, List.setIfInBounds_toArray, List.set_cons_zero, List.set_cons_succ, List.getElem_toArray, List.getElem_cons_zero, List.getElem_cons_succ]
    refine wpAnyH_take (i := 3) (v := ?v4) rfl (by kernel_rfl) (by kernel_rfl) (by kernel_rfl) (fun _ _ _ h => h) (Or.inl ⟨by rfl, ?hy4⟩) (by assumption) ?rest4
    case hy4 => (intro w hSw; (try dsimp only at hSw); go_simp; (first | done | with_reducible rfl))
    simp only [Act.put, List.setIfInBounds_toArray, List.set_cons_zero, List.set_cons_succ, List.getElem_toArray, List.getElem_cons_zero, List.getElem_cons_succ]
    refine wpAnyH_take (i := 4) (v := ?v5) rfl (by kernel_rfl) (by kernel_rfl) (by kernel_rfl) (fun _ _ _ h => h) (Or.inl ⟨by rfl, ?hy5⟩) (by assumption) ?rest5
    case hy5 => (intro w hSw; (try dsimp only at hSw); go_simp; (first | done | with_reducible rfl))
    simp only [Act.put, List.setIfInBounds_toArray, List.set_cons_zero, List.set_cons_succ, List.getElem_toArray, List.getElem_cons_zero, List.getElem_cons_succ]
    refine wpAnyH_take (i := 5) (v := ?v6) rfl (by kernel_rfl) (by kernel_rfl) (by kernel_rfl) (fun _ _ _ h => h) (Or.inl ⟨by rfl, ?hy6⟩) (by assumption) ?rest6
    case hy6 => (intro w hSw; (try dsimp only at hSw); go_simp; (first | done | with_reducible rfl))
    simp only [Act.put, List.setIfInBounds_toArray, List.set_cons_zero, List.set_cons_succ, List.getElem_toArray, List.getElem_cons_zero, List.getElem_cons_succ]
    refine wpAnyH_take (i := 6) (v := ?v7) rfl (by kernel_rfl) (by kernel_rfl) (by kernel_rfl) (fun _ _ _ h => h) (Or.inl ⟨by rfl, ?hy7⟩) (by assumption) ?rest7
    case hy7 => (intro w hSw; (try dsimp only at hSw); go_simp; (first | done | with_reducible rfl))
    simp only [Act.put, List.setIfInBounds_toArray, List.set_cons_zero, List.set_cons_succ, List.getElem_toArray, List.getElem_cons_zero, List.getElem_cons_succ]
    refine wpAnyH_take (i := 7) (v := ?v8) rfl (by kernel_rfl) (by kernel_rfl) (by kernel_rfl) (fun _ _ _ h => h) (Or.inl ⟨by rfl, ?hy8⟩) (by assumption) ?rest8
    case hy8 => (intro w hSw; (try dsimp only at hSw); go_simp; (first | done | with_reducible rfl))
    simp only [Act.put, List.setIfInBounds_toArray, List.set_cons_zero, List.set_cons_succ, List.getElem_toArray, List.getElem_cons_zero, List.getElem_cons_succ]
    refine wpAnyH_take (i := 8) (v := ?v9) rfl (by kernel_rfl) (by kernel_rfl) (by kernel_rfl) (fun _ _ _ h => h) (Or.inl ⟨by rfl, ?hy9⟩) (by assumption) ?rest9
    case hy9 => (intro w hSw; (try dsimp only at hSw); go_simp; (first | done | with_reducible rfl))
    simp only [Act.put, List.setIfInBounds_toArray, List.set_cons_zero, List.set_cons_succ, List.getElem_toArray, List.getElem_cons_zero, List.getElem_cons_succ]
    refine wpAnyH_take (i := 9) (v := ?v10) rfl (by kernel_rfl) (by kernel_rfl) (by kernel_rfl) (fun _ _ _ h => h) (Or.inl ⟨by rfl, ?hy10⟩) (by assumption) ?rest10
    case hy10 => (intro w hSw; (try dsimp only at hSw); go_simp; (first | done | with_reducible rfl))
    simp only [Act.put, List.setIfInBounds_toArray, List.set_cons_zero, List.set_cons_succ, List.getElem_toArray, List.getElem_cons_zero, List.getElem_cons_succ]
    refine wpAnyH_take (i := 10) (v := ?v11) rfl (by kernel_rfl) (by kernel_rfl) (by kernel_rfl) (fun _ _ _ h => h) (Or.inl ⟨by rfl, ?hy11⟩) (by assumption) ?rest11
    case hy11 => (intro w hSw; (try dsimp only at hSw); go_simp; (first | done | with_reducible rfl))
    simp only [Act.put, List.setIfInBounds_toArray, List.set_cons_zero, List.set_cons_succ, List.getElem_toArray, List.getElem_cons_zero, List.getElem_cons_succ]
    refine wpAnyH_take (i := 11) (v := ?v12) rfl (by kernel_rfl) (by kernel_rfl) (by kernel_rfl) (fun _ _ _ h => h) (Or.inl ⟨by rfl, ?hy12⟩) (by assumption) ?rest12
    case hy12 => (intro w hSw; (try dsimp only at hSw); go_simp; (first | done | with_reducible rfl))
    simp only [Act.put, List.setIfInBounds_toArray, List.set_cons_zero, List.set_cons_succ, List.getElem_toArray, List.getElem_cons_zero, List.getElem_cons_succ]
    refine wpAnyH_take (i := 12) (v := ?v13) rfl (by kernel_rfl) (by kernel_rfl) (by kernel_rfl) (fun _ _ _ h => h) (Or.inl ⟨by rfl, ?hy13⟩) (by assumption) ?rest13
    case hy13 => (intro w hSw; (try dsimp only at hSw); go_simp; (first | done | with_reducible rfl))
    simp only [Act.put, List.setIfInBounds_toArray, List.set_cons_zero, List.set_cons_succ, List.getElem_toArray, List.getElem_cons_zero, List.getElem_cons_succ]
    refine wpAnyH_take (i := 13) (v := ?v14) rfl (by kernel_rfl) (by kernel_rfl) (by kernel_rfl) (fun _ _ _ h => h) (Or.inl ⟨by rfl, ?hy14⟩) (by assumption) ?rest14
    case hy14 => (intro w hSw; (try dsimp only at hSw); go_simp; (first | done | with_reducible rfl))
    simp only [Act.put, List.setIfInBounds_toArray, List.set_cons_zero, List.set_cons_succ, List.getElem_toArray, List.getElem_cons_zero, List.getElem_cons_succ]
    refine wpAnyH_take (i := 14) (v := ?v15) rfl (by kernel_rfl) (by kernel_rfl) (by kernel_rfl) (fun _ _ _ h => h) (Or.inl ⟨by rfl, ?hy15⟩) (by assumption) ?rest15
    case hy15 => (intro w hSw; (try dsimp only at hSw); go_simp; (first | done | with_reducible rfl))
    simp only [Act.put, List.setIfInBounds_toArray, List.set_cons_zero, List.set_cons_succ, List.getElem_toArray, List.getElem_cons_zero, List.getElem_cons_succ]
    refine wpAnyH_ready (rs := [15]) (by kernel_rfl) (by simp) ?_
    refine AllReadyH.cons rfl (fun K hK => ?_) AllReadyH.nil
    simp only [List.getElem_toArray, List.getElem_cons_zero, List.getElem_cons_succ]
    obtain ⟨h_0, h_1, h_2, h_B⟩ := hHeld
    go_simp
    go_at_call 39
    refine (HT.out _ (IU.out.later h_B)).mono ?_
    rintro e w2 ⟨u2, rfl, i2, b2⟩
    have I2 := Lib.hid i2
    have B2 := Lib.hid (below_step B1.out (below_step h_B b2))
    clear i2
    go_wp2_with fail
    refine hK.out _ _ ⟨cell_step b2 h_0, cell_step b2 h_1, cell_step b2 h_2, below_step h_B b2⟩ (fun hHeld => ?_)
    clear hK K h_0 h_1 h_2 h_B
    try simp only [Act.put, List.setIfInBounds_toArray, List.set_cons_zero, List.set_cons_succ, List.getElem_toArray, List.getElem_cons_zero, List.getElem_cons_succ]
    refine wpAnyH_take (i := 16) (v := ?v16) rfl (by kernel_rfl) (by kernel_rfl) (by kernel_rfl) (fun _ _ _ h => h) (Or.inl ⟨by rfl, ?hy16⟩) (by assumption) ?rest16
    case hy16 => (intro w hSw; (try dsimp only at hSw); go_simp; (first | done | with_reducible rfl))
    simp only [Act.put, List.setIfInBounds_toArray, List.set_cons_zero, List.set_cons_succ, List.getElem_toArray, List.getElem_cons_zero, List.getElem_cons_succ]
    refine wpAnyH_done (by kernel_rfl) ?_ _
    go_wp2_with fail
    go_ret
    rw [H.out]
    exact ⟨_, rfl, I2.out, B2.out⟩
  · have H := Lib.hid (batchL_no (n := n) (size := size) (steps := steps) (ords := ords) (t := t) (by omega))
    have HE := Lib.hid (epoch_no b n size steps ords t (by omega) w h)
    clear h hin
    go_enter Try.func28, Try.ntmps28
    go_wp2_with fail
    refine HE.out.mono ?_
    rintro e w1 ⟨rfl, b1⟩
    go_wp2_with fail
    go_ret
    rw [H.out]
    exact ⟨_, rfl, IntsAt.nil, b1⟩
theorem Batch_any (b n size steps : Nat) (ords : List (List Int)) (hR : RightS n size steps ords) (t : Int) (ht : -9223372036854775808 ≤ t ∧ t ≤ 9223372036854775807) (w : World) (h : SampAt b w n size steps ords) :
    Calls Try.prog 11 #[.pointer (some ⟨b, 0, none⟩), .int .i64 t] w (ClonedTo 3 1 (batchL n size steps ords t).length ((batchL n size steps ords t).map (Value.int .i64)) w) := by
  have HB := Lib.hid (batch_low b n size steps ords hR t ht w h)
  have hl := batchL_length hR t
  clear hR h
  generalize batchL n size steps ords t = l at *
  go_enter Try.func11, Try.ntmps11
  go_wp2_with fail
  refine HB.out.mono ?_
  rintro e w1 ⟨u, rfl, i1, b1⟩
  have HC := Lib.hid (clone_int u l hl _ i1)
  have B1 := Lib.hid b1
  obtain ⟨a1, c1, rfl⟩ := ints_value i1
  clear i1 b1 HB
  go_wp2_with fail
  refine HC.out.mono ?_
  rintro e w2 ⟨u2, rfl, o2, b2⟩
  have O2 := Lib.hid (owns_mono B1.out.size o2)
  obtain ⟨a2, c2, rfl⟩ := own_value o2
  have B2 := Lib.hid (below_step B1.out b2)
  clear o2 b2
  go_wp2_with fail
  go_ret
  exact ⟨_, rfl, O2.out, B2.out⟩
theorem Shard_any (b n size steps : Nat) (ords : List (List Int)) (hR : RightS n size steps ords) (t : Int) (ht : -9223372036854775808 ≤ t ∧ t ≤ 9223372036854775807) (i k : Int) (hk : k ≤ 1048576) (w : World) (h : SampAt b w n size steps ords) :
    Calls Try.prog 15 #[.pointer (some ⟨b, 0, none⟩), .int .i64 t, .int .i64 i, .int .i64 k] w (ClonedTo 3 1 (pieceL (batchL n size steps ords t) i k).length ((pieceL (batchL n size steps ords t) i k).map (Value.int .i64)) w) := by
  have HB := Lib.hid (batch_low b n size steps ords hR t ht w h)
  have hl := batchL_length hR t
  clear hR h
  generalize batchL n size steps ords t = l at *
  have hp := pieceL_length l i k
  have HS := Lib.hid (fun v W h => share_any v l hl i k hk W h)
  generalize pieceL l i k = p at *
  go_enter Try.func15, Try.ntmps15
  go_wp2_with fail
  refine HB.out.mono ?_
  rintro e w1 ⟨u, rfl, i1, b1⟩
  have HC := Lib.hid (HS.out u _ i1)
  have B1 := Lib.hid b1
  obtain ⟨a1, c1, rfl⟩ := ints_value i1
  clear i1 b1 HB HS
  go_wp2_with fail
  refine HC.out.mono ?_
  rintro e w2 ⟨u2, rfl, i2, b2⟩
  have HD := Lib.hid (clone_int u2 p (by omega) _ i2)
  have B2 := Lib.hid (below_step B1.out b2)
  obtain ⟨a2, c2, rfl⟩ := ints_value i2
  clear i2 b2 HC
  go_wp2_with fail
  refine HD.out.mono ?_
  rintro e w3 ⟨u3, rfl, o3, b3⟩
  have O3 := Lib.hid (owns_mono B2.out.size o3)
  obtain ⟨a3, c3, rfl⟩ := own_value o3
  have B3 := Lib.hid (below_step B2.out b3)
  clear o3 b3
  go_wp2_with fail
  go_ret
  exact ⟨_, rfl, O3.out, B3.out⟩
theorem Micro_any (b n size steps : Nat) (ords : List (List Int)) (hR : RightS n size steps ords) (t : Int) (ht : -9223372036854775808 ≤ t ∧ t ≤ 9223372036854775807) (i k a m : Int) (hk : k ≤ 1048576) (hm : m ≤ 1048576) (w : World) (h : SampAt b w n size steps ords) :
    Calls Try.prog 17 #[.pointer (some ⟨b, 0, none⟩), .int .i64 t, .int .i64 i, .int .i64 k, .int .i64 a, .int .i64 m] w (ClonedTo 3 1 (pieceL (pieceL (batchL n size steps ords t) i k) a m).length ((pieceL (pieceL (batchL n size steps ords t) i k) a m).map (Value.int .i64)) w) := by
  have HB := Lib.hid (batch_low b n size steps ords hR t ht w h)
  have hl := batchL_length hR t
  clear hR h
  generalize batchL n size steps ords t = l at *
  have hp := pieceL_length l i k
  have HS := Lib.hid (fun v W h => share_any v l hl i k hk W h)
  generalize pieceL l i k = p at *
  have hq := pieceL_length p a m
  have HS2 := Lib.hid (fun v W h => share_any v p (by omega) a m hm W h)
  generalize pieceL p a m = q at *
  go_enter Try.func17, Try.ntmps17
  go_wp2_with fail
  refine HB.out.mono ?_
  rintro e w1 ⟨u, rfl, i1, b1⟩
  have HC := Lib.hid (HS.out u _ i1)
  have B1 := Lib.hid b1
  obtain ⟨a1, c1, rfl⟩ := ints_value i1
  clear i1 b1 HB HS
  go_wp2_with fail
  refine HC.out.mono ?_
  rintro e w2 ⟨u2, rfl, i2, b2⟩
  have HD := Lib.hid (HS2.out u2 _ i2)
  have B2 := Lib.hid (below_step B1.out b2)
  obtain ⟨a2, c2, rfl⟩ := ints_value i2
  clear i2 b2 HC HS2
  go_wp2_with fail
  refine HD.out.mono ?_
  rintro e w3 ⟨u3, rfl, i3, b3⟩
  have HE := Lib.hid (clone_int u3 q (by omega) _ i3)
  have B3 := Lib.hid (below_step B2.out b3)
  obtain ⟨a3, c3, rfl⟩ := ints_value i3
  clear i3 b3 HD
  go_wp2_with fail
  refine HE.out.mono ?_
  rintro e w4 ⟨u4, rfl, o4, b4⟩
  have O4 := Lib.hid (owns_mono B3.out.size o4)
  obtain ⟨a4, c4, rfl⟩ := own_value o4
  have B4 := Lib.hid (below_step B3.out b4)
  clear o4 b4
  go_wp2_with fail
  go_ret
  exact ⟨_, rfl, O4.out, B4.out⟩
end Go.Proofs.Ytgkiloidjeahbaa
