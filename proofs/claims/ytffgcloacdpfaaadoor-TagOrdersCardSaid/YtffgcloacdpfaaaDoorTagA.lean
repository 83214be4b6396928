/- The law's own small case: the text of a tag. -/
import Derived.Test.YtffgcloacdpfaaaDoorTagP
import Derived.Test.YtffgcloacdpfaaaDoorShelf
namespace Go.Proofs.YtffgcloacdpfaaaDoor
open Go.RowKit
set_option linter.unusedVariables false
theorem itoa_one (n : Nat) (d : UInt8) (hn : n < 10) (hd : Lib.decDigits n = [d]) (w : World) : Calls Tryd.prog 27 #[.int .i64 (n : Int)] w fun e w' => e = .returned (.string ⟨#[d]⟩) ∧ w' = w := by
  have h := Tryd.strconv_Itoa_small n (by omega) w
  rw [hd] at h
  exact h
theorem phase_one (w : World) : Calls Tryd.prog 21 #[.int .i64 1] w fun e w' => e = .returned (.string ⟨#[103, 97, 116, 104, 101, 114]⟩) ∧ w' = w := by
  go_enter Tryd.func21, Tryd.ntmps21
  go_wp2_with fail
  go_ret
  exact ⟨rfl, rfl⟩
set_option maxHeartbeats 2000000 in
theorem text_alive (w : World) : Calls Tryd.prog 15 #[.agg #[.int .i64 2, .int .i64 0, .int .i64 1, .int .i64 3, .int .i64 4]] w fun e w' => e = .returned (.string ⟨#[115, 50, 46, 98, 48, 46, 103, 97, 116, 104, 101, 114, 51, 46, 99, 52]⟩) ∧ Below w.heap.size w w' := by
  have AL := (Below.refl w.heap.size w).alloc (Nat.le_refl _) (.cells #[.int .i64 2, .int .i64 0, .int .i64 1, .int .i64 3, .int .i64 4] 23)
  have c0 := cells_five w (.int .i64 2) (.int .i64 0) (.int .i64 1) (.int .i64 3) (.int .i64 4) 23
  have q0 := c0 0 (by omega)
  have q1 := c0 1 (by omega)
  have q2 := c0 2 (by omega)
  have q3 := c0 3 (by omega)
  have q4 := c0 4 (by omega)
  have HR := Lib.hid (fun W => right_any 2 0 1 3 4 W)
  rw [show rightB 2 0 1 3 4 = true from by unfold rightB tagXs tagMs; decide] at HR
  clear c0
  go_enter Tryd.func15, Tryd.ntmps15
  go_wp2_with fail
  generalize w.alloc (.cells #[.int .i64 2, .int .i64 0, .int .i64 1, .int .i64 3, .int .i64 4] 23) = W0 at *
  refine (HR.out W0).mono ?_
  rintro e w1 ⟨rfl, b1⟩
  have B1 := below_step AL b1
  have q0 := cell_step b1 q0
  have q1 := cell_step b1 q1
  have q2 := cell_step b1 q2
  have q3 := cell_step b1 q3
  have q4 := cell_step b1 q4
  go_wp2_with fail
  refine wp_region_held_drew (S := fun w' => w'.cell? ⟨w.heap.size, 0, none⟩ = some (.int .i64 2) ∧ w'.cell? ⟨w.heap.size, 1, none⟩ = some (.int .i64 0) ∧ w'.cell? ⟨w.heap.size, 2, none⟩ = some (.int .i64 1) ∧ w'.cell? ⟨w.heap.size, 3, none⟩ = some (.int .i64 3) ∧ w'.cell? ⟨w.heap.size, 4, none⟩ = some (.int .i64 4) ∧ Below w.heap.size w w') (by kernel_rfl) ?_ (fun hHeld => ?_)
  · exact ⟨q0, q1, q2, q3, q4, B1.drew⟩
  refine wpAnyH_take (i := 0) (v := ?v1) rfl (by kernel_rfl) (by kernel_rfl) (by kernel_rfl) (fun _ _ _ h => h) (Or.inl ⟨by rfl, ?hy1⟩) (by assumption) ?rest1
  case hy1 => (intro w hSw; (try dsimp only at hSw); go_simp; (first | done | with_reducible rfl))
  simp only [Act.put, List.setIfInBounds_toArray, List.set_cons_zero, List.set_cons_succ, List.getElem_toArray, List.getElem_cons_zero]
  refine wpAnyH_take (i := 1) (v := ?v2) rfl (by kernel_rfl) (by kernel_rfl) (by kernel_rfl) (fun _ _ _ h => h) (Or.inl ⟨by rfl, ?hy2⟩) (by assumption) ?rest2
  case hy2 => (intro w hSw; (try dsimp only at hSw); go_simp; (first | done | with_reducible rfl))
  simp only [Act.put, List.setIfInBounds_toArray, List.set_cons_zero, List.set_cons_succ, List.getElem_toArray, List.getElem_cons_zero, List.getElem_cons_succ]
  refine wpAnyH_take (i := 4) (v := ?v3) rfl (by kernel_rfl) (by kernel_rfl) (by kernel_rfl) (fun _ _ _ h => h) (Or.inl ⟨by rfl, ?hy3⟩) (by assumption) ?rest3
  case hy3 => (intro w hSw; (try dsimp only at hSw); go_simp; (first | done | with_reducible rfl))
  simp only [Act.put, List.setIfInBounds_toArray, List.set_cons_zero, List.set_cons_succ, List.getElem_toArray, List.getElem_cons_zero, List.getElem_cons_succ]
  refine wpAnyH_take (i := 5) (v := ?v4) rfl (by kernel_rfl) (by kernel_rfl) (by kernel_rfl) (fun _ _ _ h => h) (Or.inl ⟨by rfl, ?hy4⟩) (by assumption) ?rest4
  case hy4 => (intro w hSw; (try dsimp only at hSw); go_simp; (first | done | with_reducible rfl))
  simp only [Act.put, List.setIfInBounds_toArray, List.set_cons_zero, List.set_cons_succ, List.getElem_toArray, List.getElem_cons_zero, List.getElem_cons_succ]
  refine wpAnyH_take (i := 8) (v := ?v5) rfl (by kernel_rfl) (by kernel_rfl) (by kernel_rfl) (fun _ _ _ h => h) (Or.inl ⟨by rfl, ?hy5⟩) (by assumption) ?rest5
  case hy5 => (intro w hSw; (try dsimp only at hSw); go_simp; (first | done | with_reducible rfl))
  simp only [Act.put, List.setIfInBounds_toArray, List.set_cons_zero, List.set_cons_succ, List.getElem_toArray, List.getElem_cons_zero, List.getElem_cons_succ]
  refine wpAnyH_take (i := 9) (v := ?v6) rfl (by kernel_rfl) (by kernel_rfl) (by kernel_rfl) (fun _ _ _ h => h) (Or.inl ⟨by rfl, ?hy6⟩) (by assumption) ?rest6
  case hy6 => (intro w hSw; (try dsimp only at hSw); go_simp; (first | done | with_reducible rfl))
  simp only [Act.put, List.setIfInBounds_toArray, List.set_cons_zero, List.set_cons_succ, List.getElem_toArray, List.getElem_cons_zero, List.getElem_cons_succ]
  refine wpAnyH_take (i := 11) (v := ?v7) rfl (by kernel_rfl) (by kernel_rfl) (by kernel_rfl) (fun _ _ _ h => h) (Or.inl ⟨by rfl, ?hy7⟩) (by assumption) ?rest7
  case hy7 => (intro w hSw; (try dsimp only at hSw); go_simp; (first | done | with_reducible rfl))
  simp only [Act.put, List.setIfInBounds_toArray, List.set_cons_zero, List.set_cons_succ, List.getElem_toArray, List.getElem_cons_zero, List.getElem_cons_succ]
  refine wpAnyH_take (i := 12) (v := ?v8) rfl (by kernel_rfl) (by kernel_rfl) (by kernel_rfl) (fun _ _ _ h => h) (Or.inl ⟨by rfl, ?hy8⟩) (by assumption) ?rest8
  case hy8 => (intro w hSw; (try dsimp only at hSw); go_simp; (first | done | with_reducible rfl))
  simp only [Act.put, List.setIfInBounds_toArray, List.set_cons_zero, List.set_cons_succ, List.getElem_toArray, List.getElem_cons_zero, List.getElem_cons_succ]
  refine wpAnyH_take (i := 15) (v := ?v9) rfl (by kernel_rfl) (by kernel_rfl) (by kernel_rfl) (fun _ _ _ h => h) (Or.inl ⟨by rfl, ?hy9⟩) (by assumption) ?rest9
  case hy9 => (intro w hSw; (try dsimp only at hSw); go_simp; (first | done | with_reducible rfl))
  simp only [Act.put, List.setIfInBounds_toArray, List.set_cons_zero, List.set_cons_succ, List.getElem_toArray, List.getElem_cons_zero, List.getElem_cons_succ]
  refine wpAnyH_take (i := 16) (v := ?v10) rfl (by kernel_rfl) (by kernel_rfl) (by kernel_rfl) (fun _ _ _ h => h) (Or.inl ⟨by rfl, ?hy10⟩) (by assumption) ?rest10
  case hy10 => (intro w hSw; (try dsimp only at hSw); go_simp; (first | done | with_reducible rfl))
  simp only [Act.put, List.setIfInBounds_toArray, List.set_cons_zero, List.set_cons_succ, List.getElem_toArray, List.getElem_cons_zero, List.getElem_cons_succ]
  refine wpAnyH_ready (rs := [2]) (by kernel_rfl) (by simp) ?_
  refine AllReadyH.cons rfl (fun K hK => ?_) AllReadyH.nil
  simp only [List.getElem_toArray, List.getElem_cons_zero, List.getElem_cons_succ]
  go_simp
  go_at_call 27
  refine (itoa_one 2 50 (by omega) (by first | decide +kernel | kernel_rfl | simp [Lib.decDigits]) _).mono ?_
  rintro e w_ ⟨rfl, rfl⟩
  go_wp2_with fail
  refine hK.out _ _ hHeld (fun hHeld => ?_)
  clear hK K
  try simp only [Act.put, List.setIfInBounds_toArray, List.set_cons_zero, List.set_cons_succ, List.getElem_toArray, List.getElem_cons_zero, List.getElem_cons_succ]
  refine wpAnyH_take (i := 3) (v := ?v11) rfl (by kernel_rfl) (by kernel_rfl) (by kernel_rfl) (fun _ _ _ h => h) (Or.inl ⟨by rfl, ?hy11⟩) (by assumption) ?rest11
  case hy11 => (intro w hSw; (try dsimp only at hSw); go_simp; (first | done | with_reducible rfl))
  simp only [Act.put, List.setIfInBounds_toArray, List.set_cons_zero, List.set_cons_succ, List.getElem_toArray, List.getElem_cons_zero, List.getElem_cons_succ]
  refine wpAnyH_ready (rs := [6]) (by kernel_rfl) (by simp) ?_
  refine AllReadyH.cons rfl (fun K hK => ?_) AllReadyH.nil
  simp only [List.getElem_toArray, List.getElem_cons_zero, List.getElem_cons_succ]
  go_simp
  go_at_call 27
  refine (itoa_one 0 48 (by omega) (by first | decide +kernel | kernel_rfl | simp [Lib.decDigits]) _).mono ?_
  rintro e w_ ⟨rfl, rfl⟩
  go_wp2_with fail
  refine hK.out _ _ hHeld (fun hHeld => ?_)
  clear hK K
  try simp only [Act.put, List.setIfInBounds_toArray, List.set_cons_zero, List.set_cons_succ, List.getElem_toArray, List.getElem_cons_zero, List.getElem_cons_succ]
  refine wpAnyH_take (i := 7) (v := ?v12) rfl (by kernel_rfl) (by kernel_rfl) (by kernel_rfl) (fun _ _ _ h => h) (Or.inl ⟨by rfl, ?hy12⟩) (by assumption) ?rest12
  case hy12 => (intro w hSw; (try dsimp only at hSw); go_simp; (first | done | with_reducible rfl))
  simp only [Act.put, List.setIfInBounds_toArray, List.set_cons_zero, List.set_cons_succ, List.getElem_toArray, List.getElem_cons_zero, List.getElem_cons_succ]
  refine wpAnyH_ready (rs := [10]) (by kernel_rfl) (by simp) ?_
  refine AllReadyH.cons rfl (fun K hK => ?_) AllReadyH.nil
  simp only [List.getElem_toArray, List.getElem_cons_zero, List.getElem_cons_succ]
  go_simp
  go_at_call 21
  refine (phase_one _).mono ?_
  rintro e w_ ⟨rfl, rfl⟩
  go_wp2_with fail
  refine hK.out _ _ hHeld (fun hHeld => ?_)
  clear hK K
  try simp only [Act.put, List.setIfInBounds_toArray, List.set_cons_zero, List.set_cons_succ, List.getElem_toArray, List.getElem_cons_zero, List.getElem_cons_succ]
  refine wpAnyH_ready (rs := [13]) (by kernel_rfl) (by simp) ?_
  refine AllReadyH.cons rfl (fun K hK => ?_) AllReadyH.nil
  simp only [List.getElem_toArray, List.getElem_cons_zero, List.getElem_cons_succ]
  go_simp
  go_at_call 27
  refine (itoa_one 3 51 (by omega) (by first | decide +kernel | kernel_rfl | simp [Lib.decDigits]) _).mono ?_
  rintro e w_ ⟨rfl, rfl⟩
  go_wp2_with fail
  refine hK.out _ _ hHeld (fun hHeld => ?_)
  clear hK K
  try simp only [Act.put, List.setIfInBounds_toArray, List.set_cons_zero, List.set_cons_succ, List.getElem_toArray, List.getElem_cons_zero, List.getElem_cons_succ]
  refine wpAnyH_take (i := 14) (v := ?v13) rfl (by kernel_rfl) (by kernel_rfl) (by kernel_rfl) (fun _ _ _ h => h) (Or.inl ⟨by rfl, ?hy13⟩) (by assumption) ?rest13
  case hy13 => (intro w hSw; (try dsimp only at hSw); go_simp; (first | done | with_reducible rfl))
  simp only [Act.put, List.setIfInBounds_toArray, List.set_cons_zero, List.set_cons_succ, List.getElem_toArray, List.getElem_cons_zero, List.getElem_cons_succ]
  refine wpAnyH_ready (rs := [17]) (by kernel_rfl) (by simp) ?_
  refine AllReadyH.cons rfl (fun K hK => ?_) AllReadyH.nil
  simp only [List.getElem_toArray, List.getElem_cons_zero, List.getElem_cons_succ]
  go_simp
  go_at_call 27
  refine (itoa_one 4 52 (by omega) (by first | decide +kernel | kernel_rfl | simp [Lib.decDigits]) _).mono ?_
  rintro e w_ ⟨rfl, rfl⟩
  go_wp2_with fail
  refine hK.out _ _ hHeld (fun hHeld => ?_)
  clear hK K
  try simp only [Act.put, List.setIfInBounds_toArray, List.set_cons_zero, List.set_cons_succ, List.getElem_toArray, List.getElem_cons_zero, List.getElem_cons_succ]
  refine wpAnyH_take (i := 18) (v := ?v14) rfl (by kernel_rfl) (by kernel_rfl) (by kernel_rfl) (fun _ _ _ h => h) (Or.inl ⟨by rfl, ?hy14⟩) (by assumption) ?rest14
  case hy14 => (intro w hSw; (try dsimp only at hSw); go_simp; (first | done | with_reducible rfl))
  simp only [Act.put, List.setIfInBounds_toArray, List.set_cons_zero, List.set_cons_succ, List.getElem_toArray, List.getElem_cons_zero, List.getElem_cons_succ]
  refine wpAnyH_ready (rs := [19]) (by kernel_rfl) (by simp) ?_
  refine AllReadyH.cons rfl (fun K hK => ?_) AllReadyH.nil
  simp only [List.getElem_toArray, List.getElem_cons_zero, List.getElem_cons_succ]
  go_simp
  have al := ((Below.refl w1.heap.size w1).alloc (Nat.le_refl _) (.cells #[.string (⟨#[115]⟩ ++ ⟨#[50]⟩), .string (⟨#[98]⟩ ++ ⟨#[48]⟩), .string (⟨#[103, 97, 116, 104, 101, 114]⟩ ++ ⟨#[51]⟩), .string (⟨#[99]⟩ ++ ⟨#[52]⟩)] 9)).drew
  have HJ := Lib.hid (Tryd.strings_Join w1.heap.size 0 4 [(⟨#[115]⟩ ++ ⟨#[50]⟩ : ByteArray), (⟨#[98]⟩ ++ ⟨#[48]⟩ : ByteArray), (⟨#[103, 97, 116, 104, 101, 114]⟩ ++ ⟨#[51]⟩ : ByteArray), (⟨#[99]⟩ ++ ⟨#[52]⟩ : ByteArray)] ⟨#[46]⟩ ((w1.alloc (.cells #[.string (⟨#[115]⟩ ++ ⟨#[50]⟩), .string (⟨#[98]⟩ ++ ⟨#[48]⟩), .string (⟨#[103, 97, 116, 104, 101, 114]⟩ ++ ⟨#[51]⟩), .string (⟨#[99]⟩ ++ ⟨#[52]⟩)] 9)).drew) (fun j x hx => by
    have h := cell_new w1 #[.string (⟨#[115]⟩ ++ ⟨#[50]⟩), .string (⟨#[98]⟩ ++ ⟨#[48]⟩), .string (⟨#[103, 97, 116, 104, 101, 114]⟩ ++ ⟨#[51]⟩), .string (⟨#[99]⟩ ++ ⟨#[52]⟩)] 9 j
    have h2 : ((w1.alloc (.cells #[.string (⟨#[115]⟩ ++ ⟨#[50]⟩), .string (⟨#[98]⟩ ++ ⟨#[48]⟩), .string (⟨#[103, 97, 116, 104, 101, 114]⟩ ++ ⟨#[51]⟩), .string (⟨#[99]⟩ ++ ⟨#[52]⟩)] 9)).drew).cell? ⟨w1.heap.size, 0 + j, none⟩ = (w1.alloc (.cells #[.string (⟨#[115]⟩ ++ ⟨#[50]⟩), .string (⟨#[98]⟩ ++ ⟨#[48]⟩), .string (⟨#[103, 97, 116, 104, 101, 114]⟩ ++ ⟨#[51]⟩), .string (⟨#[99]⟩ ++ ⟨#[52]⟩)] 9)).cell? ⟨w1.heap.size, j, none⟩ := by rw [Nat.zero_add]; rfl
    rw [h2, h]
    match j, hx with
    | 0, hx => cases hx; rfl
    | 1, hx => cases hx; rfl
    | 2, hx => cases hx; rfl
    | 3, hx => cases hx; rfl) (Nat.lt_of_lt_of_le (show w1.heap.size < (w1.alloc (.cells #[.string (⟨#[115]⟩ ++ ⟨#[50]⟩), .string (⟨#[98]⟩ ++ ⟨#[48]⟩), .string (⟨#[103, 97, 116, 104, 101, 114]⟩ ++ ⟨#[51]⟩), .string (⟨#[99]⟩ ++ ⟨#[52]⟩)] 9)).heap.size by simp) (Nat.le_refl _)) (by decide) (by decide) (by decide +kernel))
  have HB := Lib.hid (B1.trans (al.mono B1.size))
  refine hK.out _ _ ⟨cell_step al q0, cell_step al q1, cell_step al q2, cell_step al q3, cell_step al q4, HB.out⟩ (fun hHeld => ?_)
  clear hK K
  try simp only [Act.put, List.setIfInBounds_toArray, List.set_cons_zero, List.set_cons_succ, List.getElem_toArray, List.getElem_cons_zero, List.getElem_cons_succ]
  generalize (w1.alloc (.cells #[.string (⟨#[115]⟩ ++ ⟨#[50]⟩), .string (⟨#[98]⟩ ++ ⟨#[48]⟩), .string (⟨#[103, 97, 116, 104, 101, 114]⟩ ++ ⟨#[51]⟩), .string (⟨#[99]⟩ ++ ⟨#[52]⟩)] 9)).drew = W5 at *
  refine wpAnyH_take (i := 20) (v := ?v15) rfl (by kernel_rfl) (by kernel_rfl) (by kernel_rfl) (fun _ _ _ h => h) (Or.inl ⟨by rfl, ?hy15⟩) (by assumption) ?rest15
  case hy15 => (intro w hSw; (try dsimp only at hSw); go_simp; (first | done | with_reducible rfl))
  simp only [Act.put, List.setIfInBounds_toArray, List.set_cons_zero, List.set_cons_succ, List.getElem_toArray, List.getElem_cons_zero, List.getElem_cons_succ]
  refine wpAnyH_done (by kernel_rfl) ?_ _
  clear hHeld q0 q1 q2 q3 q4
  go_wp2_with fail
  refine HJ.out.mono ?_
  rintro e w7 ⟨rfl, b7⟩
  have BF := HB.out.trans (b7.mono HB.out.size)
  go_wp2_with fail
  go_ret
  exact ⟨by first | rfl | decide +kernel | (congr 2), BF⟩
end Go.Proofs.YtffgcloacdpfaaaDoor
