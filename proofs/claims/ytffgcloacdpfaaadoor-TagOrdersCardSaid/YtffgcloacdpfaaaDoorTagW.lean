/- The walk of TagPacks. -/
import Derived.Test.YtffgcloacdpfaaaDoorTagE
namespace Go.Proofs.YtffgcloacdpfaaaDoor
open Go.RowKit
set_option linter.unusedVariables false
theorem un_pack {a b c d e_ : Int} (h : RightT a b c d e_) : unA (packU a b) = a ∧ unB (packU a b) = b ∧ unC (packV c d e_) = c ∧ unD (packV c d e_) = d ∧ unE (packV c d e_) = e_ := by
  obtain ⟨h1, h2, h3, h4, h5⟩ := h
  unfold unA unB unC unD unE packU packV
  refine ⟨by omega, by omega, by omega, by omega, by omega⟩
set_option maxHeartbeats 2000000 in
theorem walk_packs_no (a b c d e_ : Int) (w : World) (hr : rightB a b c d e_ = false) :
    Calls Tryd.prog 3 #[.agg #[.int .i64 a, .int .i64 b, .int .i64 c, .int .i64 d, .int .i64 e_]] w fun e w' => e = .returned (.bool true) ∧ Below w.heap.size w w' := by
  have heq := fun W => eql_two 0 0 W
  have heq2 := fun W => equalIn_two 0 0 W
  have HP := Lib.hid (fun W => pack_no a b c d e_ hr W)
  have AL := (Below.refl w.heap.size w).alloc (Nat.le_refl _) (.cells #[.int .i64 a, .int .i64 b, .int .i64 c, .int .i64 d, .int .i64 e_] 23)
  have c0 := cells_five w (.int .i64 a) (.int .i64 b) (.int .i64 c) (.int .i64 d) (.int .i64 e_) 23
  have q0 := c0 0 (by omega)
  have q1 := c0 1 (by omega)
  have q2 := c0 2 (by omega)
  have q3 := c0 3 (by omega)
  have q4 := c0 4 (by omega)
  have HRR := Lib.hid (fun W => refRight_any a b c d e_ W)
  have HRT := Lib.hid (fun W => right_any a b c d e_ W)
  rw [hr] at HRR HRT
  clear c0 hr
  go_enter Tryd.func3, Tryd.ntmps3
  go_wp2_with fail
  generalize w.alloc (.cells #[.int .i64 a, .int .i64 b, .int .i64 c, .int .i64 d, .int .i64 e_] 23) = W0 at *
  refine (HP.out W0).mono ?_
  rintro e w1 ⟨rfl, b1⟩
  have al1 := (Below.refl w1.heap.size w1).alloc (Nat.le_refl _) (.cells #[.int .u64 0, .int .u64 0] 25)
  have p01 := cells_two w1 (.int .u64 0) (.int .u64 0) 25
  have x1 := below_step b1 al1
  have q0 := cell_step x1 q0
  have q1 := cell_step x1 q1
  have q2 := cell_step x1 q2
  have q3 := cell_step x1 q3
  have q4 := cell_step x1 q4
  obtain ⟨p0, p1⟩ := p01
  have B1 := below_step AL x1
  go_wp2_with fail
  generalize w1.alloc (.cells #[.int .u64 0, .int .u64 0] 25) = W1 at *
  refine (HRR.out W1).mono ?_
  rintro e w2 ⟨rfl, b2⟩
  have q0 := cell_step b2 q0
  have q1 := cell_step b2 q1
  have q2 := cell_step b2 q2
  have q3 := cell_step b2 q3
  have q4 := cell_step b2 q4
  have p0 := cell_step b2 p0
  have p1 := cell_step b2 p1
  have B2 := below_step B1 b2
  go_wp2_with fail
  refine (HRT.out w2).mono ?_
  rintro e w3 ⟨rfl, b3⟩
  have q0 := cell_step b3 q0
  have q1 := cell_step b3 q1
  have q2 := cell_step b3 q2
  have q3 := cell_step b3 q3
  have q4 := cell_step b3 q4
  have p0 := cell_step b3 p0
  have p1 := cell_step b3 p1
  have B3 := below_step B2 b3
  clear al1 x1 b1 b2 b3 AL B1 B2
  go_wp2_with fail
  refine (alive_any _).mono ?_
  rintro e w4 ⟨rfl, b4⟩
  have p0 := cell_step b4 p0
  have p1 := cell_step b4 p1
  have B4 := below_step B3 b4
  go_wp2_with fail
  go_ret
  exact ⟨rfl, B4⟩
set_option maxHeartbeats 4000000 in
theorem walk_packs_yes (a b c d e_ : Int) (w : World) (hr : rightB a b c d e_ = true) :
    Calls Tryd.prog 3 #[.agg #[.int .i64 a, .int .i64 b, .int .i64 c, .int .i64 d, .int .i64 e_]] w fun e w' => e = .returned (.bool true) ∧ Below w.heap.size w w' := by
  have hT := right_is hr
  obtain ⟨PU, hPU⟩ : ∃ PU, PU = packU a b := ⟨_, rfl⟩
  obtain ⟨PV, hPV⟩ : ∃ PV, PV = packV c d e_ := ⟨_, rfl⟩
  have heq := fun W => eql_two PU PV W
  have heq2 := fun W => equalIn_two PU PV W
  have HP := Lib.hid (fun W => pack_yes a b c d e_ hT hr W)
  have HRP := Lib.hid (fun W => refPack_any a b c d e_ hT W)
  rw [← hPU, ← hPV] at HP HRP
  have hup := un_pack hT
  have hbU : 0 ≤ PU ∧ PU < 18446744073709551616 := by obtain ⟨h1, h2, _⟩ := hT; rw [hPU]; unfold packU; omega
  have hbV : 0 ≤ PV ∧ PV < 18446744073709551616 := by obtain ⟨_, _, h3, h4, h5⟩ := hT; rw [hPV]; unfold packV; omega
  have HU := Lib.hid (fun W => (show Calls Tryd.prog 12 #[.agg #[.int .u64 PU, .int .u64 PV]] W (fun e w' => e = .returned (.tuple #[.agg #[.int .i64 a, .int .i64 b, .int .i64 c, .int .i64 d, .int .i64 e_], .bool true]) ∧ Below W.heap.size W w') from by
    refine (unpack_any PU PV hbU.1 hbU.2 hbV.1 hbV.2 W).mono ?_
    intro e w' h
    unfold UnpackIs at h
    rw [hPU, hPV, hup.1, hup.2.1, hup.2.2.1, hup.2.2.2.1, hup.2.2.2.2, hr, if_pos rfl] at h
    exact h))
  clear hT hup hbU hbV hPU hPV
  have AL := (Below.refl w.heap.size w).alloc (Nat.le_refl _) (.cells #[.int .i64 a, .int .i64 b, .int .i64 c, .int .i64 d, .int .i64 e_] 23)
  have c0 := cells_five w (.int .i64 a) (.int .i64 b) (.int .i64 c) (.int .i64 d) (.int .i64 e_) 23
  have q0 := c0 0 (by omega)
  have q1 := c0 1 (by omega)
  have q2 := c0 2 (by omega)
  have q3 := c0 3 (by omega)
  have q4 := c0 4 (by omega)
  have HRR := Lib.hid (fun W => refRight_any a b c d e_ W)
  have HRT := Lib.hid (fun W => right_any a b c d e_ W)
  rw [hr] at HRR HRT
  clear c0 hr
  go_enter Tryd.func3, Tryd.ntmps3
  go_wp2_with fail
  generalize w.alloc (.cells #[.int .i64 a, .int .i64 b, .int .i64 c, .int .i64 d, .int .i64 e_] 23) = W0 at *
  refine (HP.out W0).mono ?_
  rintro e w1 ⟨rfl, b1⟩
  have al1 := (Below.refl w1.heap.size w1).alloc (Nat.le_refl _) (.cells #[.int .u64 PU, .int .u64 PV] 25)
  have p01 := cells_two w1 (.int .u64 PU) (.int .u64 PV) 25
  have x1 := below_step b1 al1
  have q0 := cell_step x1 q0
  have q1 := cell_step x1 q1
  have q2 := cell_step x1 q2
  have q3 := cell_step x1 q3
  have q4 := cell_step x1 q4
  obtain ⟨p0, p1⟩ := p01
  have B1 := below_step AL x1
  go_wp2_with fail
  generalize w1.alloc (.cells #[.int .u64 PU, .int .u64 PV] 25) = W1 at *
  refine (HRR.out W1).mono ?_
  rintro e w2 ⟨rfl, b2⟩
  have q0 := cell_step b2 q0
  have q1 := cell_step b2 q1
  have q2 := cell_step b2 q2
  have q3 := cell_step b2 q3
  have q4 := cell_step b2 q4
  have p0 := cell_step b2 p0
  have p1 := cell_step b2 p1
  have B2 := below_step B1 b2
  go_wp2_with fail
  refine (HRT.out w2).mono ?_
  rintro e w3 ⟨rfl, b3⟩
  have q0 := cell_step b3 q0
  have q1 := cell_step b3 q1
  have q2 := cell_step b3 q2
  have q3 := cell_step b3 q3
  have q4 := cell_step b3 q4
  have p0 := cell_step b3 p0
  have p1 := cell_step b3 p1
  have B3 := below_step B2 b3
  clear al1 x1 b1 b2 b3 AL B1 B2
  go_wp2_with fail
  refine (HU.out w3).mono ?_
  rintro e w4 ⟨rfl, b4⟩
  have al4 := (Below.refl w4.heap.size w4).alloc (Nat.le_refl _) (.cells #[.int .i64 a, .int .i64 b, .int .i64 c, .int .i64 d, .int .i64 e_] 23)
  have u := cells_five w4 (.int .i64 a) (.int .i64 b) (.int .i64 c) (.int .i64 d) (.int .i64 e_) 23
  have u0 := u 0 (by omega)
  have u1 := u 1 (by omega)
  have u2 := u 2 (by omega)
  have u3 := u 3 (by omega)
  have u4 := u 4 (by omega)
  have x4 := below_step b4 al4
  have q0 := cell_step x4 q0
  have q1 := cell_step x4 q1
  have q2 := cell_step x4 q2
  have q3 := cell_step x4 q3
  have q4 := cell_step x4 q4
  have p0 := cell_step x4 p0
  have p1 := cell_step x4 p1
  have B5 := below_step B3 x4
  clear u al4 x4 b4
  go_wp2_with fail
  generalize w4.alloc (.cells #[.int .i64 a, .int .i64 b, .int .i64 c, .int .i64 d, .int .i64 e_] 23) = W5 at *
  have HB5 := Lib.hid B5
  have bd := (Below.refl W5.heap.size W5).drew
  refine wp_region_held_drew (S := fun w' => w'.cell? ⟨w1.heap.size, 0, none⟩ = some (.int .u64 PU) ∧ w'.cell? ⟨w1.heap.size, 1, none⟩ = some (.int .u64 PV) ∧ w'.cell? ⟨w.heap.size, 0, none⟩ = some (.int .i64 a) ∧ w'.cell? ⟨w.heap.size, 1, none⟩ = some (.int .i64 b) ∧ w'.cell? ⟨w.heap.size, 2, none⟩ = some (.int .i64 c) ∧ w'.cell? ⟨w.heap.size, 3, none⟩ = some (.int .i64 d) ∧ w'.cell? ⟨w.heap.size, 4, none⟩ = some (.int .i64 e_) ∧ w'.cell? ⟨w4.heap.size, 0, none⟩ = some (.int .i64 a) ∧ w'.cell? ⟨w4.heap.size, 1, none⟩ = some (.int .i64 b) ∧ w'.cell? ⟨w4.heap.size, 2, none⟩ = some (.int .i64 c) ∧ w'.cell? ⟨w4.heap.size, 3, none⟩ = some (.int .i64 d) ∧ w'.cell? ⟨w4.heap.size, 4, none⟩ = some (.int .i64 e_) ∧ Below W5.heap.size W5 w') (by kernel_rfl) ?_ (fun hHeld => ?_)
  · exact ⟨cell_step bd p0, cell_step bd p1, cell_step bd q0, cell_step bd q1, cell_step bd q2, cell_step bd q3, cell_step bd q4, cell_step bd u0, cell_step bd u1, cell_step bd u2, cell_step bd u3, cell_step bd u4, bd⟩
  refine wpAnyH_ready (rs := [0]) (by kernel_rfl) (by simp) ?_
  refine AllReadyH.cons rfl (fun K hK => ?_) AllReadyH.nil
  simp only [List.getElem_toArray, List.getElem_cons_zero]
  go_simp
  go_at_call 11
  obtain ⟨h0, h1, h2, h3, h4, h5, h6, h7, h8, h9, h10, h11, h12⟩ := hHeld
  refine (alive_any _).mono ?_
  rintro e w_k0 ⟨rfl, k0⟩
  go_wp2_with fail
  refine hK.out _ _ ⟨cell_step k0 h0, cell_step k0 h1, cell_step k0 h2, cell_step k0 h3, cell_step k0 h4, cell_step k0 h5, cell_step k0 h6, cell_step k0 h7, cell_step k0 h8, cell_step k0 h9, cell_step k0 h10, cell_step k0 h11, below_step h12 k0⟩ (fun hHeld => ?_)
  clear hK K h0 h1 h2 h3 h4 h5 h6 h7 h8 h9 h10 h11 h12
  try simp only [Act.put, List.setIfInBounds_toArray, List.set_cons_zero, List.set_cons_succ, List.getElem_toArray, List.getElem_cons_zero, List.getElem_cons_succ]
  refine wpAnyH_take (i := 1) (v := ?v1) rfl (by kernel_rfl) (by kernel_rfl) (by kernel_rfl) (fun _ _ _ h => h) (Or.inl ⟨by rfl, ?hy1⟩) (by assumption) ?rest1
  case hy1 => (intro w hSw; (try dsimp only at hSw); go_simp; (first | done | with_reducible rfl))
  simp only [Act.put, List.setIfInBounds_toArray, List.set_cons_zero, List.set_cons_succ, List.getElem_toArray, List.getElem_cons_zero, List.getElem_cons_succ]
  refine wpAnyH_take (i := 2) (v := ?v2) rfl (by kernel_rfl) (by kernel_rfl) (by kernel_rfl) (fun _ _ _ h => h) (Or.inl ⟨by rfl, ?hy2⟩) (by assumption) ?rest2
  case hy2 => (intro w hSw; (try dsimp only at hSw); go_simp; (first | done | with_reducible rfl))
  simp only [Act.put, List.setIfInBounds_toArray, List.set_cons_zero, List.set_cons_succ, List.getElem_toArray, List.getElem_cons_zero, List.getElem_cons_succ]
  refine wpAnyH_take (i := 3) (v := ?v3) rfl (by kernel_rfl) (by kernel_rfl) (by kernel_rfl) (fun _ _ _ h => h) (Or.inl ⟨by rfl, ?hy3⟩) (by assumption) ?rest3
  case hy3 => (intro w hSw; (try dsimp only at hSw); go_simp; (first | done | with_reducible rfl))
  simp only [Act.put, List.setIfInBounds_toArray, List.set_cons_zero, List.set_cons_succ, List.getElem_toArray, List.getElem_cons_zero, List.getElem_cons_succ]
  refine wpAnyH_ready (rs := [4]) (by kernel_rfl) (by simp) ?_
  refine AllReadyH.cons rfl (fun K hK => ?_) AllReadyH.nil
  simp only [List.getElem_toArray, List.getElem_cons_zero, List.getElem_cons_succ]
  go_simp
  go_at_call 13
  obtain ⟨h0, h1, h2, h3, h4, h5, h6, h7, h8, h9, h10, h11, h12⟩ := hHeld
  refine (HRP.out _).mono ?_
  rintro e w_k1 ⟨rfl, k1⟩
  have BE := Lib.hid (below_step h12 k1)
  go_wp2_with fail
  refine hK.out _ _ ⟨cell_step k1 h0, cell_step k1 h1, cell_step k1 h2, cell_step k1 h3, cell_step k1 h4, cell_step k1 h5, cell_step k1 h6, cell_step k1 h7, cell_step k1 h8, cell_step k1 h9, cell_step k1 h10, cell_step k1 h11, below_step h12 k1⟩ (fun hHeld => ?_)
  clear hK K h0 h1 h2 h3 h4 h5 h6 h7 h8 h9 h10 h11 h12
  try simp only [Act.put, List.setIfInBounds_toArray, List.set_cons_zero, List.set_cons_succ, List.getElem_toArray, List.getElem_cons_zero, List.getElem_cons_succ]
  refine wpAnyH_take (i := 5) (v := ?v4) rfl (by kernel_rfl) (by kernel_rfl) (by kernel_rfl) (fun _ _ _ h => h) (Or.inl ⟨by rfl, ?hy4⟩) (by assumption) ?rest4
  case hy4 => (intro w hSw; (try dsimp only at hSw); go_simp; (first | done | with_reducible rfl))
  simp only [Act.put, List.setIfInBounds_toArray, List.set_cons_zero, List.set_cons_succ, List.getElem_toArray, List.getElem_cons_zero, List.getElem_cons_succ]
  refine wpAnyH_take (i := 6) (v := ?v5) rfl (by kernel_rfl) (by kernel_rfl) (by kernel_rfl) (fun _ _ _ h => h) (Or.inl ⟨by rfl, ?hy5⟩) (by assumption) ?rest5
  case hy5 => (intro w hSw; (try dsimp only at hSw); go_simp; (first | done | with_reducible rfl))
  simp only [Act.put, List.setIfInBounds_toArray, List.set_cons_zero, List.set_cons_succ, List.getElem_toArray, List.getElem_cons_zero, List.getElem_cons_succ]
  refine wpAnyH_take (i := 7) (v := ?v6) rfl (by kernel_rfl) (by kernel_rfl) (by kernel_rfl) (fun _ _ _ h => h) (Or.inl ⟨by rfl, ?hy6⟩) (by assumption) ?rest6
  case hy6 => (intro w hSw; (try dsimp only at hSw); go_simp; (first | done | with_reducible rfl))
  simp only [Act.put, List.setIfInBounds_toArray, List.set_cons_zero, List.set_cons_succ, List.getElem_toArray, List.getElem_cons_zero, List.getElem_cons_succ]
  refine wpAnyH_take (i := 8) (v := ?v7) rfl (by kernel_rfl) (by kernel_rfl) (by kernel_rfl) (fun _ _ _ h => h) (Or.inl ⟨by rfl, ?hy7⟩) (by assumption) ?rest7
  case hy7 => (intro w hSw; (try dsimp only at hSw); go_simp; (first | done | with_reducible rfl))
  simp only [Act.put, List.setIfInBounds_toArray, List.set_cons_zero, List.set_cons_succ, List.getElem_toArray, List.getElem_cons_zero, List.getElem_cons_succ]
  refine wpAnyH_take (i := 9) (v := ?v8) rfl (by kernel_rfl) (by kernel_rfl) (by kernel_rfl) (fun _ _ _ h => h) (Or.inl ⟨by rfl, ?hy8⟩) (by assumption) ?rest8
  case hy8 => (intro w hSw; (try dsimp only at hSw); go_simp; (first | done | with_reducible rfl))
  simp only [Act.put, List.setIfInBounds_toArray, List.set_cons_zero, List.set_cons_succ, List.getElem_toArray, List.getElem_cons_zero, List.getElem_cons_succ]
  refine wpAnyH_take (i := 10) (v := ?v9) rfl (by kernel_rfl) (by kernel_rfl) (by kernel_rfl) (fun _ _ _ h => h) (Or.inl ⟨by rfl, ?hy9⟩) (by assumption) ?rest9
  case hy9 => (intro w hSw; (try dsimp only at hSw); go_simp; (first | done | with_reducible rfl))
  simp only [Act.put, List.setIfInBounds_toArray, List.set_cons_zero, List.set_cons_succ, List.getElem_toArray, List.getElem_cons_zero, List.getElem_cons_succ]
  refine wpAnyH_take (i := 11) (v := ?v10) rfl (by kernel_rfl) (by kernel_rfl) (by kernel_rfl) (fun _ _ _ h => h) (Or.inl ⟨by rfl, ?hy10⟩) (by assumption) ?rest10
  case hy10 => (intro w hSw; (try dsimp only at hSw); go_simp; (first | done | with_reducible rfl))
  simp only [Act.put, List.setIfInBounds_toArray, List.set_cons_zero, List.set_cons_succ, List.getElem_toArray, List.getElem_cons_zero, List.getElem_cons_succ]
  refine wpAnyH_take (i := 12) (v := ?v11) rfl (by kernel_rfl) (by kernel_rfl) (by kernel_rfl) (fun _ _ _ h => h) (Or.inl ⟨by rfl, ?hy11⟩) (by assumption) ?rest11
  case hy11 => (intro w hSw; (try dsimp only at hSw); go_simp; (first | done | with_reducible rfl))
  simp only [Act.put, List.setIfInBounds_toArray, List.set_cons_zero, List.set_cons_succ, List.getElem_toArray, List.getElem_cons_zero, List.getElem_cons_succ]
  refine wpAnyH_take (i := 13) (v := ?v12) rfl (by kernel_rfl) (by kernel_rfl) (by kernel_rfl) (fun _ _ _ h => h) (Or.inl ⟨by rfl, ?hy12⟩) (by assumption) ?rest12
  case hy12 => (intro w hSw; (try dsimp only at hSw); go_simp; (first | done | with_reducible rfl))
  simp only [Act.put, List.setIfInBounds_toArray, List.set_cons_zero, List.set_cons_succ, List.getElem_toArray, List.getElem_cons_zero, List.getElem_cons_succ]
  refine wpAnyH_take (i := 14) (v := ?v13) rfl (by kernel_rfl) (by kernel_rfl) (by kernel_rfl) (fun _ _ _ h => h) (Or.inl ⟨by rfl, ?hy13⟩) (by assumption) ?rest13
  case hy13 => (intro w hSw; (try dsimp only at hSw); go_simp; (first | done | with_reducible rfl))
  simp only [Act.put, List.setIfInBounds_toArray, List.set_cons_zero, List.set_cons_succ, List.getElem_toArray, List.getElem_cons_zero, List.getElem_cons_succ]
  refine wpAnyH_take (i := 15) (v := ?v14) rfl (by kernel_rfl) (by kernel_rfl) (by kernel_rfl) (fun _ _ _ h => h) (Or.inl ⟨by rfl, ?hy14⟩) (by assumption) ?rest14
  case hy14 => (intro w hSw; (try dsimp only at hSw); go_simp; (first | done | with_reducible rfl))
  simp only [Act.put, List.setIfInBounds_toArray, List.set_cons_zero, List.set_cons_succ, List.getElem_toArray, List.getElem_cons_zero, List.getElem_cons_succ]
  refine wpAnyH_done (by kernel_rfl) ?_ _
  have BF := HB5.out.trans (BE.out.mono HB5.out.size)
  go_wp2_with fail
  go_ret
  exact ⟨rfl, BF⟩
theorem walk_packs (a b c d e_ : Int) (_ha : -9223372036854775808 ≤ a ∧ a ≤ 9223372036854775807) (_hb : -9223372036854775808 ≤ b ∧ b ≤ 9223372036854775807) (_hc : -9223372036854775808 ≤ c ∧ c ≤ 9223372036854775807) (_hd : -9223372036854775808 ≤ d ∧ d ≤ 9223372036854775807) (_he : -9223372036854775808 ≤ e_ ∧ e_ ≤ 9223372036854775807) (w : World) (_hL : laidMetH Tryd.prog Rows.tagPacksRow.laid w) :
    Calls Tryd.prog 3 #[.agg #[.int .i64 a, .int .i64 b, .int .i64 c, .int .i64 d, .int .i64 e_]] w fun e w' => e = .returned (.bool true) ∧ Below w.heap.size w w' := by
  cases hr : rightB a b c d e_
  · exact walk_packs_no a b c d e_ w hr
  · exact walk_packs_yes a b c d e_ w hr
end Go.Proofs.YtffgcloacdpfaaaDoor
