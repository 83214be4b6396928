/- Layer 17: the walk of TagOrders. -/
import Derived.Test.YtffgcloacdpfaaaDoorTagQ
namespace Go.Proofs.YtffgcloacdpfaaaDoor
open Go.RowKit
set_option linter.unusedVariables false
theorem cmpL_range (xs ys : List Int) : -1 ≤ cmpL xs ys ∧ cmpL xs ys ≤ 1 := by
  induction xs generalizing ys with
  | nil => simp [cmpL]
  | cons x xs ih =>
    cases ys with
    | nil => simp [cmpL]
    | cons y ys =>
      have := ih ys
      simp only [cmpL]
      split
      · omega
      · split <;> omega
theorem cmpL_tag (a b c d e_ p q r s t : Int) : (cmpL (tagXs a b c d e_) (tagXs p q r s t) == 0) = (tagXs a b c d e_ == tagXs p q r s t) := by
  rw [Bool.eq_iff_iff]
  simp only [beq_iff_eq]
  exact ⟨fun h => cmpL_eq _ _ rfl h, fun h => by rw [h]; exact cmpL_self _⟩
set_option maxHeartbeats 4000000 in
theorem walk_orders_00 (a b c d e_ p q r s t ph : Int) (w : World) (h1 : rightB a b c d e_ = false) (h2 : rightB p q r s t = false) :
    Calls Tryd.prog 7 #[.agg #[.int .i64 a, .int .i64 b, .int .i64 c, .int .i64 d, .int .i64 e_], .agg #[.int .i64 p, .int .i64 q, .int .i64 r, .int .i64 s, .int .i64 t], .int .i64 ph] w fun e w' => e = .returned (.bool true) ∧ Below w.heap.size w w' := by
  have HPA := Lib.hid (fun W => pack_no a b c d e_ h1 W)
  have HPB := Lib.hid (fun W => pack_no p q r s t h2 W)
  clear h1 h2
  have A1 := (Below.refl w.heap.size w).alloc (Nat.le_refl _) (.cells #[.int .i64 a, .int .i64 b, .int .i64 c, .int .i64 d, .int .i64 e_] 23)
  have A2 := A1.alloc A1.size (.cells #[.int .i64 p, .int .i64 q, .int .i64 r, .int .i64 s, .int .i64 t] 23)
  have al2 := (Below.refl (w.alloc (.cells #[.int .i64 a, .int .i64 b, .int .i64 c, .int .i64 d, .int .i64 e_] 23)).heap.size (w.alloc (.cells #[.int .i64 a, .int .i64 b, .int .i64 c, .int .i64 d, .int .i64 e_] 23))).alloc (Nat.le_refl _) (.cells #[.int .i64 p, .int .i64 q, .int .i64 r, .int .i64 s, .int .i64 t] 23)
  have hz1 : (w.alloc (.cells #[.int .i64 a, .int .i64 b, .int .i64 c, .int .i64 d, .int .i64 e_] 23)).heap.size = w.heap.size + 1 := by simp
  have cx := cells_five w (.int .i64 a) (.int .i64 b) (.int .i64 c) (.int .i64 d) (.int .i64 e_) 23
  have cy := cells_five (w.alloc (.cells #[.int .i64 a, .int .i64 b, .int .i64 c, .int .i64 d, .int .i64 e_] 23)) (.int .i64 p) (.int .i64 q) (.int .i64 r) (.int .i64 s) (.int .i64 t) 23
  rw [hz1] at cy
  have x0 := cell_step al2 (cx 0 (by omega))
  have x1 := cell_step al2 (cx 1 (by omega))
  have x2 := cell_step al2 (cx 2 (by omega))
  have x3 := cell_step al2 (cx 3 (by omega))
  have x4 := cell_step al2 (cx 4 (by omega))
  have y0 := cy 0 (by omega)
  have y1 := cy 1 (by omega)
  have y2 := cy 2 (by omega)
  have y3 := cy 3 (by omega)
  have y4 := cy 4 (by omega)
  have HC := Lib.hid (fun W => compare_any a b c d e_ p q r s t W)
  have HC2 := Lib.hid (fun W => compare_any p q r s t a b c d e_ W)
  have HR := Lib.hid (fun W => refCompare_any a b c d e_ p q r s t W)
  rw [cmpL_neg (tagXs a b c d e_) (tagXs p q r s t)] at HC2
  have hrange := cmpL_range (tagXs a b c d e_) (tagXs p q r s t)
  have hzero := cmpL_tag a b c d e_ p q r s t
  generalize cmpL (tagXs a b c d e_) (tagXs p q r s t) = n at *
  have heq := fun W => eql_tag a b c d e_ p q r s t W
  rw [← hzero] at heq
  obtain ⟨n1, n2⟩ := hrange
  have HP := Lib.hid (fun W => phase_any ph W)
  have HQ := Lib.hid (fun W => refPhase_any ph W)
  generalize phaseT ph = PH at *
  have hsame : (n == n) = true := by simp
  have hneg : IntKind.i64.wrap (-n) = -n := IntWalk.i64_in _ (by omega)
  clear cx cy al2 A1 hz1 hzero
  go_enter Tryd.func7, Tryd.ntmps7
  go_wp2_with fail
  generalize (w.alloc (.cells #[.int .i64 a, .int .i64 b, .int .i64 c, .int .i64 d, .int .i64 e_] 23)).alloc (.cells #[.int .i64 p, .int .i64 q, .int .i64 r, .int .i64 s, .int .i64 t] 23) = W0 at *
  refine (HC.out _).mono ?_
  rintro e w1 ⟨rfl, b1⟩
  have x0 := cell_step b1 x0
  have x1 := cell_step b1 x1
  have x2 := cell_step b1 x2
  have x3 := cell_step b1 x3
  have x4 := cell_step b1 x4
  have y0 := cell_step b1 y0
  have y1 := cell_step b1 y1
  have y2 := cell_step b1 y2
  have y3 := cell_step b1 y3
  have y4 := cell_step b1 y4
  have B1 := Lib.hid (below_step A2 b1)
  clear b1 A2
  go_wp2_with fail
  refine (HR.out _).mono ?_
  rintro e w2 ⟨rfl, b2⟩
  have x0 := cell_step b2 x0
  have x1 := cell_step b2 x1
  have x2 := cell_step b2 x2
  have x3 := cell_step b2 x3
  have x4 := cell_step b2 x4
  have y0 := cell_step b2 y0
  have y1 := cell_step b2 y1
  have y2 := cell_step b2 y2
  have y3 := cell_step b2 y3
  have y4 := cell_step b2 y4
  have B2 := Lib.hid (below_step B1.out b2)
  clear b2
  go_wp2_with fail
  refine (HC2.out _).mono ?_
  rintro e w3 ⟨rfl, b3⟩
  have x0 := cell_step b3 x0
  have x1 := cell_step b3 x1
  have x2 := cell_step b3 x2
  have x3 := cell_step b3 x3
  have x4 := cell_step b3 x4
  have y0 := cell_step b3 y0
  have y1 := cell_step b3 y1
  have y2 := cell_step b3 y2
  have y3 := cell_step b3 y3
  have y4 := cell_step b3 y4
  have B3 := Lib.hid (below_step B2.out b3)
  clear b3
  go_wp2_with fail
  refine (HP.out _).mono ?_
  rintro e w4 ⟨rfl, rfl⟩
  go_wp2_with fail
  refine (HQ.out _).mono ?_
  rintro e w4 ⟨rfl, rfl⟩
  go_wp2_with fail
  refine (HPA.out _).mono ?_
  rintro e w5 ⟨rfl, b5⟩
  have x0 := cell_step b5 x0
  have x1 := cell_step b5 x1
  have x2 := cell_step b5 x2
  have x3 := cell_step b5 x3
  have x4 := cell_step b5 x4
  have y0 := cell_step b5 y0
  have y1 := cell_step b5 y1
  have y2 := cell_step b5 y2
  have y3 := cell_step b5 y3
  have y4 := cell_step b5 y4
  have al5 := (Below.refl w5.heap.size w5).alloc (Nat.le_refl _) (.cells #[.int .u64 0, .int .u64 0] 25)
  have x0 := cell_step al5 x0
  have x1 := cell_step al5 x1
  have x2 := cell_step al5 x2
  have x3 := cell_step al5 x3
  have x4 := cell_step al5 x4
  have y0 := cell_step al5 y0
  have y1 := cell_step al5 y1
  have y2 := cell_step al5 y2
  have y3 := cell_step al5 y3
  have y4 := cell_step al5 y4
  have z5 := cells_two w5 (.int .u64 0) (.int .u64 0) 25
  obtain ⟨p0, p1⟩ := z5
  have B5 := Lib.hid (below_step (below_step B3.out b5) al5)
  clear b5 al5
  go_wp2_with fail
  obtain ⟨NA, hNA⟩ : ∃ NA, NA = w5.heap.size := ⟨_, rfl⟩
  rw [← hNA] at p0 p1 ⊢
  generalize w5.alloc (.cells #[.int .u64 0, .int .u64 0] 25) = W5 at *
  clear hNA
  refine (HPB.out _).mono ?_
  rintro e w6 ⟨rfl, b6⟩
  have p0 := cell_step b6 p0
  have p1 := cell_step b6 p1
  have al6 := (Below.refl w6.heap.size w6).alloc (Nat.le_refl _) (.cells #[.int .u64 0, .int .u64 0] 25)
  have p0 := cell_step al6 p0
  have p1 := cell_step al6 p1
  have z6 := cells_two w6 (.int .u64 0) (.int .u64 0) 25
  obtain ⟨q0, q1⟩ := z6
  have B6 := Lib.hid (below_step (below_step B5.out b6) al6)
  clear b6 al6 x0 x1 x2 x3 x4 y0 y1 y2 y3 y4
  go_wp2_with fail
  obtain ⟨NB, hNB⟩ : ∃ NB, NB = w6.heap.size := ⟨_, rfl⟩
  rw [← hNB] at q0 q1 ⊢
  generalize w6.alloc (.cells #[.int .u64 0, .int .u64 0] 25) = W6 at *
  clear hNB
  refine wp_region_held_drew (S := fun w' => w'.cell? ⟨NA, 0, none⟩ = some (.int .u64 0) ∧ w'.cell? ⟨NA, 1, none⟩ = some (.int .u64 0) ∧ w'.cell? ⟨NB, 0, none⟩ = some (.int .u64 0) ∧ w'.cell? ⟨NB, 1, none⟩ = some (.int .u64 0) ∧ Below W6.heap.size W6 w') (by kernel_rfl) ?_ (fun hHeld => ?_)
  · exact ⟨p0, p1, q0, q1, (Below.refl _ _).drew⟩
  refine wpAnyH_ready (rs := [0]) (by kernel_rfl) (by simp) ?_
  refine AllReadyH.cons rfl (fun K hK => ?_) AllReadyH.nil
  simp only [List.getElem_toArray, List.getElem_cons_zero]
  go_simp
  go_at_call 11
  obtain ⟨h_0, h_1, h_2, h_3, h_B⟩ := hHeld
  refine (alive_any _).mono ?_
  rintro e w_k0 ⟨rfl, k0⟩
  have HB0 := Lib.hid (below_step h_B k0)
  go_wp2_with fail
  refine hK.out _ _ ⟨cell_step k0 h_0, cell_step k0 h_1, cell_step k0 h_2, cell_step k0 h_3, below_step h_B k0⟩ (fun hHeld => ?_)
  clear hK K h_0 h_1 h_2 h_3 h_B
  try simp only [Act.put, List.setIfInBounds_toArray, List.set_cons_zero, List.set_cons_succ, List.getElem_toArray, List.getElem_cons_zero, List.getElem_cons_succ]
  refine wpAnyH_take (i := 1) (v := ?v1) rfl (by kernel_rfl) (by kernel_rfl) (by kernel_rfl) (fun _ _ _ h => h) (Or.inl ⟨by rfl, ?hy1⟩) (by assumption) ?rest1
  case hy1 => (intro w hSw; (try dsimp only at hSw); go_simp; (first | done | with_reducible rfl))
  simp only [Act.put, List.setIfInBounds_toArray, List.set_cons_zero, List.set_cons_succ, List.getElem_toArray, List.getElem_cons_zero, List.getElem_cons_succ]
  refine wpAnyH_take (i := 2) (v := ?v2) rfl (by kernel_rfl) (by kernel_rfl) (by kernel_rfl) (fun _ _ _ h => h) (Or.inl ⟨by rfl, ?hy2⟩) (by assumption) ?rest2
  case hy2 => (intro w hSw; (try dsimp only at hSw); go_simp; (first | done | with_reducible rfl))
  simp only [Act.put, List.setIfInBounds_toArray, List.set_cons_zero, List.set_cons_succ, List.getElem_toArray, List.getElem_cons_zero, List.getElem_cons_succ]
  refine wpAnyH_take (i := 3) (v := ?v3) rfl (by kernel_rfl) (by kernel_rfl) (by kernel_rfl) (fun _ _ _ h => h) (Or.inl ⟨by rfl, ?hy3⟩) (by assumption) ?rest3
  case hy3 => (intro w hSw; (try dsimp only at hSw); go_simp; (first | done | with_reducible rfl))
  simp only [Act.put, List.setIfInBounds_toArray, List.set_cons_zero, List.set_cons_succ, List.getElem_toArray, List.getElem_cons_zero, List.getElem_cons_succ]
  refine wpAnyH_take (i := 4) (v := ?v4) rfl (by kernel_rfl) (by kernel_rfl) (by kernel_rfl) (fun _ _ _ h => h) (Or.inl ⟨by rfl, ?hy4⟩) (by assumption) ?rest4
  case hy4 => (intro w hSw; (try dsimp only at hSw); go_simp; (first | done | with_reducible rfl))
  simp only [Act.put, List.setIfInBounds_toArray, List.set_cons_zero, List.set_cons_succ, List.getElem_toArray, List.getElem_cons_zero, List.getElem_cons_succ]
  refine wpAnyH_take (i := 5) (v := undef) rfl (by kernel_rfl) (by kernel_rfl) (by kernel_rfl) (fun _ _ _ h => h) (Or.inr ⟨by rfl, rfl⟩) (by assumption) ?rest5
  simp only [Act.put, List.setIfInBounds_toArray, List.set_cons_zero, List.set_cons_succ, List.getElem_toArray, List.getElem_cons_zero, List.getElem_cons_succ]
  refine wpAnyH_take (i := 6) (v := undef) rfl (by kernel_rfl) (by kernel_rfl) (by kernel_rfl) (fun _ _ _ h => h) (Or.inr ⟨by rfl, rfl⟩) (by assumption) ?rest6
  simp only [Act.put, List.setIfInBounds_toArray, List.set_cons_zero, List.set_cons_succ, List.getElem_toArray, List.getElem_cons_zero, List.getElem_cons_succ]
  refine wpAnyH_take (i := 7) (v := ?v7) rfl (by kernel_rfl) (by kernel_rfl) (by kernel_rfl) (fun _ _ _ h => h) (Or.inl ⟨by rfl, ?hy7⟩) (by assumption) ?rest7
  case hy7 => (intro w hSw; (try dsimp only at hSw); go_simp; (first | done | with_reducible rfl))
  simp only [Act.put, List.setIfInBounds_toArray, List.set_cons_zero, List.set_cons_succ, List.getElem_toArray, List.getElem_cons_zero, List.getElem_cons_succ]
  refine wpAnyH_take (i := 8) (v := ?v8) rfl (by kernel_rfl) (by kernel_rfl) (by kernel_rfl) (fun _ _ _ h => h) (Or.inl ⟨by rfl, ?hy8⟩) (by assumption) ?rest8
  case hy8 => (intro w hSw; (try dsimp only at hSw); go_simp; (first | done | with_reducible rfl))
  simp only [Act.put, List.setIfInBounds_toArray, List.set_cons_zero, List.set_cons_succ, List.getElem_toArray, List.getElem_cons_zero, List.getElem_cons_succ]
  refine wpAnyH_take (i := 9) (v := undef) rfl (by kernel_rfl) (by kernel_rfl) (by kernel_rfl) (fun _ _ _ h => h) (Or.inr ⟨by rfl, rfl⟩) (by assumption) ?rest9
  simp only [Act.put, List.setIfInBounds_toArray, List.set_cons_zero, List.set_cons_succ, List.getElem_toArray, List.getElem_cons_zero, List.getElem_cons_succ]
  refine wpAnyH_take (i := 10) (v := undef) rfl (by kernel_rfl) (by kernel_rfl) (by kernel_rfl) (fun _ _ _ h => h) (Or.inr ⟨by rfl, rfl⟩) (by assumption) ?rest10
  simp only [Act.put, List.setIfInBounds_toArray, List.set_cons_zero, List.set_cons_succ, List.getElem_toArray, List.getElem_cons_zero, List.getElem_cons_succ]
  refine wpAnyH_take (i := 11) (v := undef) rfl (by kernel_rfl) (by kernel_rfl) (by kernel_rfl) (fun _ _ _ h => h) (Or.inr ⟨by rfl, rfl⟩) (by assumption) ?rest11
  simp only [Act.put, List.setIfInBounds_toArray, List.set_cons_zero, List.set_cons_succ, List.getElem_toArray, List.getElem_cons_zero, List.getElem_cons_succ]
  refine wpAnyH_take (i := 12) (v := undef) rfl (by kernel_rfl) (by kernel_rfl) (by kernel_rfl) (fun _ _ _ h => h) (Or.inr ⟨by rfl, rfl⟩) (by assumption) ?rest12
  simp only [Act.put, List.setIfInBounds_toArray, List.set_cons_zero, List.set_cons_succ, List.getElem_toArray, List.getElem_cons_zero, List.getElem_cons_succ]
  refine wpAnyH_take (i := 13) (v := undef) rfl (by kernel_rfl) (by kernel_rfl) (by kernel_rfl) (fun _ _ _ h => h) (Or.inr ⟨by rfl, rfl⟩) (by assumption) ?rest13
  simp only [Act.put, List.setIfInBounds_toArray, List.set_cons_zero, List.set_cons_succ, List.getElem_toArray, List.getElem_cons_zero, List.getElem_cons_succ]
  refine wpAnyH_take (i := 14) (v := undef) rfl (by kernel_rfl) (by kernel_rfl) (by kernel_rfl) (fun _ _ _ h => h) (Or.inr ⟨by rfl, rfl⟩) (by assumption) ?rest14
  simp only [Act.put, List.setIfInBounds_toArray, List.set_cons_zero, List.set_cons_succ, List.getElem_toArray, List.getElem_cons_zero, List.getElem_cons_succ]
  refine wpAnyH_take (i := 15) (v := undef) rfl (by kernel_rfl) (by kernel_rfl) (by kernel_rfl) (fun _ _ _ h => h) (Or.inr ⟨by rfl, rfl⟩) (by assumption) ?rest15
  simp only [Act.put, List.setIfInBounds_toArray, List.set_cons_zero, List.set_cons_succ, List.getElem_toArray, List.getElem_cons_zero, List.getElem_cons_succ]
  refine wpAnyH_take (i := 16) (v := undef) rfl (by kernel_rfl) (by kernel_rfl) (by kernel_rfl) (fun _ _ _ h => h) (Or.inr ⟨by rfl, rfl⟩) (by assumption) ?rest16
  simp only [Act.put, List.setIfInBounds_toArray, List.set_cons_zero, List.set_cons_succ, List.getElem_toArray, List.getElem_cons_zero, List.getElem_cons_succ]
  refine wpAnyH_take (i := 17) (v := undef) rfl (by kernel_rfl) (by kernel_rfl) (by kernel_rfl) (fun _ _ _ h => h) (Or.inr ⟨by rfl, rfl⟩) (by assumption) ?rest17
  simp only [Act.put, List.setIfInBounds_toArray, List.set_cons_zero, List.set_cons_succ, List.getElem_toArray, List.getElem_cons_zero, List.getElem_cons_succ]
  refine wpAnyH_take (i := 18) (v := undef) rfl (by kernel_rfl) (by kernel_rfl) (by kernel_rfl) (fun _ _ _ h => h) (Or.inr ⟨by rfl, rfl⟩) (by assumption) ?rest18
  simp only [Act.put, List.setIfInBounds_toArray, List.set_cons_zero, List.set_cons_succ, List.getElem_toArray, List.getElem_cons_zero, List.getElem_cons_succ]
  refine wpAnyH_take (i := 19) (v := undef) rfl (by kernel_rfl) (by kernel_rfl) (by kernel_rfl) (fun _ _ _ h => h) (Or.inr ⟨by rfl, rfl⟩) (by assumption) ?rest19
  simp only [Act.put, List.setIfInBounds_toArray, List.set_cons_zero, List.set_cons_succ, List.getElem_toArray, List.getElem_cons_zero, List.getElem_cons_succ]
  refine wpAnyH_take (i := 20) (v := undef) rfl (by kernel_rfl) (by kernel_rfl) (by kernel_rfl) (fun _ _ _ h => h) (Or.inr ⟨by rfl, rfl⟩) (by assumption) ?rest20
  simp only [Act.put, List.setIfInBounds_toArray, List.set_cons_zero, List.set_cons_succ, List.getElem_toArray, List.getElem_cons_zero, List.getElem_cons_succ]
  refine wpAnyH_take (i := 21) (v := undef) rfl (by kernel_rfl) (by kernel_rfl) (by kernel_rfl) (fun _ _ _ h => h) (Or.inr ⟨by rfl, rfl⟩) (by assumption) ?rest21
  simp only [Act.put, List.setIfInBounds_toArray, List.set_cons_zero, List.set_cons_succ, List.getElem_toArray, List.getElem_cons_zero, List.getElem_cons_succ]
  refine wpAnyH_take (i := 22) (v := undef) rfl (by kernel_rfl) (by kernel_rfl) (by kernel_rfl) (fun _ _ _ h => h) (Or.inr ⟨by rfl, rfl⟩) (by assumption) ?rest22
  simp only [Act.put, List.setIfInBounds_toArray, List.set_cons_zero, List.set_cons_succ, List.getElem_toArray, List.getElem_cons_zero, List.getElem_cons_succ]
  refine wpAnyH_take (i := 23) (v := ?v23) rfl (by kernel_rfl) (by kernel_rfl) (by kernel_rfl) (fun _ _ _ h => h) (Or.inl ⟨by rfl, ?hy23⟩) (by assumption) ?rest23
  case hy23 => (intro w hSw; (try dsimp only at hSw); go_simp; (first | done | with_reducible rfl))
  simp only [Act.put, List.setIfInBounds_toArray, List.set_cons_zero, List.set_cons_succ, List.getElem_toArray, List.getElem_cons_zero, List.getElem_cons_succ]
  refine wpAnyH_take (i := 24) (v := ?v24) rfl (by kernel_rfl) (by kernel_rfl) (by kernel_rfl) (fun _ _ _ h => h) (Or.inl ⟨by rfl, ?hy24⟩) (by assumption) ?rest24
  case hy24 => (intro w hSw; (try dsimp only at hSw); go_simp; (first | done | with_reducible rfl))
  simp only [Act.put, List.setIfInBounds_toArray, List.set_cons_zero, List.set_cons_succ, List.getElem_toArray, List.getElem_cons_zero, List.getElem_cons_succ]
  refine wpAnyH_take (i := 25) (v := ?v25) rfl (by kernel_rfl) (by kernel_rfl) (by kernel_rfl) (fun _ _ _ h => h) (Or.inl ⟨by rfl, ?hy25⟩) (by assumption) ?rest25
  case hy25 => (intro w hSw; (try dsimp only at hSw); go_simp; (first | done | with_reducible rfl))
  simp only [Act.put, List.setIfInBounds_toArray, List.set_cons_zero, List.set_cons_succ, List.getElem_toArray, List.getElem_cons_zero, List.getElem_cons_succ]
  refine wpAnyH_done (by kernel_rfl) ?_ _
  go_wp2_with fail
  go_ret
  exact ⟨rfl, below_step B6.out HB0.out⟩
set_option maxHeartbeats 4000000 in
theorem walk_orders_01 (a b c d e_ p q r s t ph : Int) (w : World) (h1 : rightB a b c d e_ = false) (h2 : rightB p q r s t = true) :
    Calls Tryd.prog 7 #[.agg #[.int .i64 a, .int .i64 b, .int .i64 c, .int .i64 d, .int .i64 e_], .agg #[.int .i64 p, .int .i64 q, .int .i64 r, .int .i64 s, .int .i64 t], .int .i64 ph] w fun e w' => e = .returned (.bool true) ∧ Below w.heap.size w w' := by
  have HPA := Lib.hid (fun W => pack_no a b c d e_ h1 W)
  obtain ⟨QU, hQU⟩ : ∃ QU, QU = packU p q := ⟨_, rfl⟩
  obtain ⟨QV, hQV⟩ : ∃ QV, QV = packV r s t := ⟨_, rfl⟩
  have HPB := Lib.hid (fun W => pack_yes p q r s t (right_is h2) h2 W)
  rw [← hQU, ← hQV] at HPB
  clear hQU hQV
  clear h1 h2
  have A1 := (Below.refl w.heap.size w).alloc (Nat.le_refl _) (.cells #[.int .i64 a, .int .i64 b, .int .i64 c, .int .i64 d, .int .i64 e_] 23)
  have A2 := A1.alloc A1.size (.cells #[.int .i64 p, .int .i64 q, .int .i64 r, .int .i64 s, .int .i64 t] 23)
  have al2 := (Below.refl (w.alloc (.cells #[.int .i64 a, .int .i64 b, .int .i64 c, .int .i64 d, .int .i64 e_] 23)).heap.size (w.alloc (.cells #[.int .i64 a, .int .i64 b, .int .i64 c, .int .i64 d, .int .i64 e_] 23))).alloc (Nat.le_refl _) (.cells #[.int .i64 p, .int .i64 q, .int .i64 r, .int .i64 s, .int .i64 t] 23)
  have hz1 : (w.alloc (.cells #[.int .i64 a, .int .i64 b, .int .i64 c, .int .i64 d, .int .i64 e_] 23)).heap.size = w.heap.size + 1 := by simp
  have cx := cells_five w (.int .i64 a) (.int .i64 b) (.int .i64 c) (.int .i64 d) (.int .i64 e_) 23
  have cy := cells_five (w.alloc (.cells #[.int .i64 a, .int .i64 b, .int .i64 c, .int .i64 d, .int .i64 e_] 23)) (.int .i64 p) (.int .i64 q) (.int .i64 r) (.int .i64 s) (.int .i64 t) 23
  rw [hz1] at cy
  have x0 := cell_step al2 (cx 0 (by omega))
  have x1 := cell_step al2 (cx 1 (by omega))
  have x2 := cell_step al2 (cx 2 (by omega))
  have x3 := cell_step al2 (cx 3 (by omega))
  have x4 := cell_step al2 (cx 4 (by omega))
  have y0 := cy 0 (by omega)
  have y1 := cy 1 (by omega)
  have y2 := cy 2 (by omega)
  have y3 := cy 3 (by omega)
  have y4 := cy 4 (by omega)
  have HC := Lib.hid (fun W => compare_any a b c d e_ p q r s t W)
  have HC2 := Lib.hid (fun W => compare_any p q r s t a b c d e_ W)
  have HR := Lib.hid (fun W => refCompare_any a b c d e_ p q r s t W)
  rw [cmpL_neg (tagXs a b c d e_) (tagXs p q r s t)] at HC2
  have hrange := cmpL_range (tagXs a b c d e_) (tagXs p q r s t)
  have hzero := cmpL_tag a b c d e_ p q r s t
  generalize cmpL (tagXs a b c d e_) (tagXs p q r s t) = n at *
  have heq := fun W => eql_tag a b c d e_ p q r s t W
  rw [← hzero] at heq
  obtain ⟨n1, n2⟩ := hrange
  have HP := Lib.hid (fun W => phase_any ph W)
  have HQ := Lib.hid (fun W => refPhase_any ph W)
  generalize phaseT ph = PH at *
  have hsame : (n == n) = true := by simp
  have hneg : IntKind.i64.wrap (-n) = -n := IntWalk.i64_in _ (by omega)
  clear cx cy al2 A1 hz1 hzero
  go_enter Tryd.func7, Tryd.ntmps7
  go_wp2_with fail
  generalize (w.alloc (.cells #[.int .i64 a, .int .i64 b, .int .i64 c, .int .i64 d, .int .i64 e_] 23)).alloc (.cells #[.int .i64 p, .int .i64 q, .int .i64 r, .int .i64 s, .int .i64 t] 23) = W0 at *
  refine (HC.out _).mono ?_
  rintro e w1 ⟨rfl, b1⟩
  have x0 := cell_step b1 x0
  have x1 := cell_step b1 x1
  have x2 := cell_step b1 x2
  have x3 := cell_step b1 x3
  have x4 := cell_step b1 x4
  have y0 := cell_step b1 y0
  have y1 := cell_step b1 y1
  have y2 := cell_step b1 y2
  have y3 := cell_step b1 y3
  have y4 := cell_step b1 y4
  have B1 := Lib.hid (below_step A2 b1)
  clear b1 A2
  go_wp2_with fail
  refine (HR.out _).mono ?_
  rintro e w2 ⟨rfl, b2⟩
  have x0 := cell_step b2 x0
  have x1 := cell_step b2 x1
  have x2 := cell_step b2 x2
  have x3 := cell_step b2 x3
  have x4 := cell_step b2 x4
  have y0 := cell_step b2 y0
  have y1 := cell_step b2 y1
  have y2 := cell_step b2 y2
  have y3 := cell_step b2 y3
  have y4 := cell_step b2 y4
  have B2 := Lib.hid (below_step B1.out b2)
  clear b2
  go_wp2_with fail
  refine (HC2.out _).mono ?_
  rintro e w3 ⟨rfl, b3⟩
  have x0 := cell_step b3 x0
  have x1 := cell_step b3 x1
  have x2 := cell_step b3 x2
  have x3 := cell_step b3 x3
  have x4 := cell_step b3 x4
  have y0 := cell_step b3 y0
  have y1 := cell_step b3 y1
  have y2 := cell_step b3 y2
  have y3 := cell_step b3 y3
  have y4 := cell_step b3 y4
  have B3 := Lib.hid (below_step B2.out b3)
  clear b3
  go_wp2_with fail
  refine (HP.out _).mono ?_
  rintro e w4 ⟨rfl, rfl⟩
  go_wp2_with fail
  refine (HQ.out _).mono ?_
  rintro e w4 ⟨rfl, rfl⟩
  go_wp2_with fail
  refine (HPA.out _).mono ?_
  rintro e w5 ⟨rfl, b5⟩
  have x0 := cell_step b5 x0
  have x1 := cell_step b5 x1
  have x2 := cell_step b5 x2
  have x3 := cell_step b5 x3
  have x4 := cell_step b5 x4
  have y0 := cell_step b5 y0
  have y1 := cell_step b5 y1
  have y2 := cell_step b5 y2
  have y3 := cell_step b5 y3
  have y4 := cell_step b5 y4
  have al5 := (Below.refl w5.heap.size w5).alloc (Nat.le_refl _) (.cells #[.int .u64 0, .int .u64 0] 25)
  have x0 := cell_step al5 x0
  have x1 := cell_step al5 x1
  have x2 := cell_step al5 x2
  have x3 := cell_step al5 x3
  have x4 := cell_step al5 x4
  have y0 := cell_step al5 y0
  have y1 := cell_step al5 y1
  have y2 := cell_step al5 y2
  have y3 := cell_step al5 y3
  have y4 := cell_step al5 y4
  have z5 := cells_two w5 (.int .u64 0) (.int .u64 0) 25
  obtain ⟨p0, p1⟩ := z5
  have B5 := Lib.hid (below_step (below_step B3.out b5) al5)
  clear b5 al5
  go_wp2_with fail
  obtain ⟨NA, hNA⟩ : ∃ NA, NA = w5.heap.size := ⟨_, rfl⟩
  rw [← hNA] at p0 p1 ⊢
  generalize w5.alloc (.cells #[.int .u64 0, .int .u64 0] 25) = W5 at *
  clear hNA
  refine (HPB.out _).mono ?_
  rintro e w6 ⟨rfl, b6⟩
  have p0 := cell_step b6 p0
  have p1 := cell_step b6 p1
  have al6 := (Below.refl w6.heap.size w6).alloc (Nat.le_refl _) (.cells #[.int .u64 QU, .int .u64 QV] 25)
  have p0 := cell_step al6 p0
  have p1 := cell_step al6 p1
  have z6 := cells_two w6 (.int .u64 QU) (.int .u64 QV) 25
  obtain ⟨q0, q1⟩ := z6
  have B6 := Lib.hid (below_step (below_step B5.out b6) al6)
  clear b6 al6 x0 x1 x2 x3 x4 y0 y1 y2 y3 y4
  go_wp2_with fail
  obtain ⟨NB, hNB⟩ : ∃ NB, NB = w6.heap.size := ⟨_, rfl⟩
  rw [← hNB] at q0 q1 ⊢
  generalize w6.alloc (.cells #[.int .u64 QU, .int .u64 QV] 25) = W6 at *
  clear hNB
  refine wp_region_held_drew (S := fun w' => w'.cell? ⟨NA, 0, none⟩ = some (.int .u64 0) ∧ w'.cell? ⟨NA, 1, none⟩ = some (.int .u64 0) ∧ w'.cell? ⟨NB, 0, none⟩ = some (.int .u64 QU) ∧ w'.cell? ⟨NB, 1, none⟩ = some (.int .u64 QV) ∧ Below W6.heap.size W6 w') (by kernel_rfl) ?_ (fun hHeld => ?_)
  · exact ⟨p0, p1, q0, q1, (Below.refl _ _).drew⟩
  refine wpAnyH_ready (rs := [0]) (by kernel_rfl) (by simp) ?_
  refine AllReadyH.cons rfl (fun K hK => ?_) AllReadyH.nil
  simp only [List.getElem_toArray, List.getElem_cons_zero]
  go_simp
  go_at_call 11
  obtain ⟨h_0, h_1, h_2, h_3, h_B⟩ := hHeld
  refine (alive_any _).mono ?_
  rintro e w_k0 ⟨rfl, k0⟩
  have HB0 := Lib.hid (below_step h_B k0)
  go_wp2_with fail
  refine hK.out _ _ ⟨cell_step k0 h_0, cell_step k0 h_1, cell_step k0 h_2, cell_step k0 h_3, below_step h_B k0⟩ (fun hHeld => ?_)
  clear hK K h_0 h_1 h_2 h_3 h_B
  try simp only [Act.put, List.setIfInBounds_toArray, List.set_cons_zero, List.set_cons_succ, List.getElem_toArray, List.getElem_cons_zero, List.getElem_cons_succ]
  refine wpAnyH_take (i := 1) (v := ?v26) rfl (by kernel_rfl) (by kernel_rfl) (by kernel_rfl) (fun _ _ _ h => h) (Or.inl ⟨by rfl, ?hy26⟩) (by assumption) ?rest26
  case hy26 => (intro w hSw; (try dsimp only at hSw); go_simp; (first | done | with_reducible rfl))
  simp only [Act.put, List.setIfInBounds_toArray, List.set_cons_zero, List.set_cons_succ, List.getElem_toArray, List.getElem_cons_zero, List.getElem_cons_succ]
  refine wpAnyH_take (i := 2) (v := ?v27) rfl (by kernel_rfl) (by kernel_rfl) (by kernel_rfl) (fun _ _ _ h => h) (Or.inl ⟨by rfl, ?hy27⟩) (by assumption) ?rest27
  case hy27 => (intro w hSw; (try dsimp only at hSw); go_simp; (first | done | with_reducible rfl))
  simp only [Act.put, List.setIfInBounds_toArray, List.set_cons_zero, List.set_cons_succ, List.getElem_toArray, List.getElem_cons_zero, List.getElem_cons_succ]
  refine wpAnyH_take (i := 3) (v := ?v28) rfl (by kernel_rfl) (by kernel_rfl) (by kernel_rfl) (fun _ _ _ h => h) (Or.inl ⟨by rfl, ?hy28⟩) (by assumption) ?rest28
  case hy28 => (intro w hSw; (try dsimp only at hSw); go_simp; (first | done | with_reducible rfl))
  simp only [Act.put, List.setIfInBounds_toArray, List.set_cons_zero, List.set_cons_succ, List.getElem_toArray, List.getElem_cons_zero, List.getElem_cons_succ]
  refine wpAnyH_take (i := 4) (v := ?v29) rfl (by kernel_rfl) (by kernel_rfl) (by kernel_rfl) (fun _ _ _ h => h) (Or.inl ⟨by rfl, ?hy29⟩) (by assumption) ?rest29
  case hy29 => (intro w hSw; (try dsimp only at hSw); go_simp; (first | done | with_reducible rfl))
  simp only [Act.put, List.setIfInBounds_toArray, List.set_cons_zero, List.set_cons_succ, List.getElem_toArray, List.getElem_cons_zero, List.getElem_cons_succ]
  refine wpAnyH_take (i := 5) (v := undef) rfl (by kernel_rfl) (by kernel_rfl) (by kernel_rfl) (fun _ _ _ h => h) (Or.inr ⟨by rfl, rfl⟩) (by assumption) ?rest30
  simp only [Act.put, List.setIfInBounds_toArray, List.set_cons_zero, List.set_cons_succ, List.getElem_toArray, List.getElem_cons_zero, List.getElem_cons_succ]
  refine wpAnyH_take (i := 6) (v := undef) rfl (by kernel_rfl) (by kernel_rfl) (by kernel_rfl) (fun _ _ _ h => h) (Or.inr ⟨by rfl, rfl⟩) (by assumption) ?rest31
  simp only [Act.put, List.setIfInBounds_toArray, List.set_cons_zero, List.set_cons_succ, List.getElem_toArray, List.getElem_cons_zero, List.getElem_cons_succ]
  refine wpAnyH_take (i := 7) (v := ?v32) rfl (by kernel_rfl) (by kernel_rfl) (by kernel_rfl) (fun _ _ _ h => h) (Or.inl ⟨by rfl, ?hy32⟩) (by assumption) ?rest32
  case hy32 => (intro w hSw; (try dsimp only at hSw); go_simp; (first | done | with_reducible rfl))
  simp only [Act.put, List.setIfInBounds_toArray, List.set_cons_zero, List.set_cons_succ, List.getElem_toArray, List.getElem_cons_zero, List.getElem_cons_succ]
  refine wpAnyH_take (i := 8) (v := ?v33) rfl (by kernel_rfl) (by kernel_rfl) (by kernel_rfl) (fun _ _ _ h => h) (Or.inl ⟨by rfl, ?hy33⟩) (by assumption) ?rest33
  case hy33 => (intro w hSw; (try dsimp only at hSw); go_simp; (first | done | with_reducible rfl))
  simp only [Act.put, List.setIfInBounds_toArray, List.set_cons_zero, List.set_cons_succ, List.getElem_toArray, List.getElem_cons_zero, List.getElem_cons_succ]
  refine wpAnyH_take (i := 9) (v := undef) rfl (by kernel_rfl) (by kernel_rfl) (by kernel_rfl) (fun _ _ _ h => h) (Or.inr ⟨by rfl, rfl⟩) (by assumption) ?rest34
  simp only [Act.put, List.setIfInBounds_toArray, List.set_cons_zero, List.set_cons_succ, List.getElem_toArray, List.getElem_cons_zero, List.getElem_cons_succ]
  refine wpAnyH_take (i := 10) (v := undef) rfl (by kernel_rfl) (by kernel_rfl) (by kernel_rfl) (fun _ _ _ h => h) (Or.inr ⟨by rfl, rfl⟩) (by assumption) ?rest35
  simp only [Act.put, List.setIfInBounds_toArray, List.set_cons_zero, List.set_cons_succ, List.getElem_toArray, List.getElem_cons_zero, List.getElem_cons_succ]
  refine wpAnyH_take (i := 11) (v := undef) rfl (by kernel_rfl) (by kernel_rfl) (by kernel_rfl) (fun _ _ _ h => h) (Or.inr ⟨by rfl, rfl⟩) (by assumption) ?rest36
  simp only [Act.put, List.setIfInBounds_toArray, List.set_cons_zero, List.set_cons_succ, List.getElem_toArray, List.getElem_cons_zero, List.getElem_cons_succ]
  refine wpAnyH_take (i := 12) (v := undef) rfl (by kernel_rfl) (by kernel_rfl) (by kernel_rfl) (fun _ _ _ h => h) (Or.inr ⟨by rfl, rfl⟩) (by assumption) ?rest37
  simp only [Act.put, List.setIfInBounds_toArray, List.set_cons_zero, List.set_cons_succ, List.getElem_toArray, List.getElem_cons_zero, List.getElem_cons_succ]
  refine wpAnyH_take (i := 13) (v := undef) rfl (by kernel_rfl) (by kernel_rfl) (by kernel_rfl) (fun _ _ _ h => h) (Or.inr ⟨by rfl, rfl⟩) (by assumption) ?rest38
  simp only [Act.put, List.setIfInBounds_toArray, List.set_cons_zero, List.set_cons_succ, List.getElem_toArray, List.getElem_cons_zero, List.getElem_cons_succ]
  refine wpAnyH_take (i := 14) (v := undef) rfl (by kernel_rfl) (by kernel_rfl) (by kernel_rfl) (fun _ _ _ h => h) (Or.inr ⟨by rfl, rfl⟩) (by assumption) ?rest39
  simp only [Act.put, List.setIfInBounds_toArray, List.set_cons_zero, List.set_cons_succ, List.getElem_toArray, List.getElem_cons_zero, List.getElem_cons_succ]
  refine wpAnyH_take (i := 15) (v := undef) rfl (by kernel_rfl) (by kernel_rfl) (by kernel_rfl) (fun _ _ _ h => h) (Or.inr ⟨by rfl, rfl⟩) (by assumption) ?rest40
  simp only [Act.put, List.setIfInBounds_toArray, List.set_cons_zero, List.set_cons_succ, List.getElem_toArray, List.getElem_cons_zero, List.getElem_cons_succ]
  refine wpAnyH_take (i := 16) (v := undef) rfl (by kernel_rfl) (by kernel_rfl) (by kernel_rfl) (fun _ _ _ h => h) (Or.inr ⟨by rfl, rfl⟩) (by assumption) ?rest41
  simp only [Act.put, List.setIfInBounds_toArray, List.set_cons_zero, List.set_cons_succ, List.getElem_toArray, List.getElem_cons_zero, List.getElem_cons_succ]
  refine wpAnyH_take (i := 17) (v := undef) rfl (by kernel_rfl) (by kernel_rfl) (by kernel_rfl) (fun _ _ _ h => h) (Or.inr ⟨by rfl, rfl⟩) (by assumption) ?rest42
  simp only [Act.put, List.setIfInBounds_toArray, List.set_cons_zero, List.set_cons_succ, List.getElem_toArray, List.getElem_cons_zero, List.getElem_cons_succ]
  refine wpAnyH_take (i := 18) (v := undef) rfl (by kernel_rfl) (by kernel_rfl) (by kernel_rfl) (fun _ _ _ h => h) (Or.inr ⟨by rfl, rfl⟩) (by assumption) ?rest43
  simp only [Act.put, List.setIfInBounds_toArray, List.set_cons_zero, List.set_cons_succ, List.getElem_toArray, List.getElem_cons_zero, List.getElem_cons_succ]
  refine wpAnyH_take (i := 19) (v := undef) rfl (by kernel_rfl) (by kernel_rfl) (by kernel_rfl) (fun _ _ _ h => h) (Or.inr ⟨by rfl, rfl⟩) (by assumption) ?rest44
  simp only [Act.put, List.setIfInBounds_toArray, List.set_cons_zero, List.set_cons_succ, List.getElem_toArray, List.getElem_cons_zero, List.getElem_cons_succ]
  refine wpAnyH_take (i := 20) (v := undef) rfl (by kernel_rfl) (by kernel_rfl) (by kernel_rfl) (fun _ _ _ h => h) (Or.inr ⟨by rfl, rfl⟩) (by assumption) ?rest45
  simp only [Act.put, List.setIfInBounds_toArray, List.set_cons_zero, List.set_cons_succ, List.getElem_toArray, List.getElem_cons_zero, List.getElem_cons_succ]
  refine wpAnyH_take (i := 21) (v := undef) rfl (by kernel_rfl) (by kernel_rfl) (by kernel_rfl) (fun _ _ _ h => h) (Or.inr ⟨by rfl, rfl⟩) (by assumption) ?rest46
  simp only [Act.put, List.setIfInBounds_toArray, List.set_cons_zero, List.set_cons_succ, List.getElem_toArray, List.getElem_cons_zero, List.getElem_cons_succ]
  refine wpAnyH_take (i := 22) (v := undef) rfl (by kernel_rfl) (by kernel_rfl) (by kernel_rfl) (fun _ _ _ h => h) (Or.inr ⟨by rfl, rfl⟩) (by assumption) ?rest47
  simp only [Act.put, List.setIfInBounds_toArray, List.set_cons_zero, List.set_cons_succ, List.getElem_toArray, List.getElem_cons_zero, List.getElem_cons_succ]
  refine wpAnyH_take (i := 23) (v := ?v48) rfl (by kernel_rfl) (by kernel_rfl) (by kernel_rfl) (fun _ _ _ h => h) (Or.inl ⟨by rfl, ?hy48⟩) (by assumption) ?rest48
  case hy48 => (intro w hSw; (try dsimp only at hSw); go_simp; (first | done | with_reducible rfl))
  simp only [Act.put, List.setIfInBounds_toArray, List.set_cons_zero, List.set_cons_succ, List.getElem_toArray, List.getElem_cons_zero, List.getElem_cons_succ]
  refine wpAnyH_take (i := 24) (v := ?v49) rfl (by kernel_rfl) (by kernel_rfl) (by kernel_rfl) (fun _ _ _ h => h) (Or.inl ⟨by rfl, ?hy49⟩) (by assumption) ?rest49
  case hy49 => (intro w hSw; (try dsimp only at hSw); go_simp; (first | done | with_reducible rfl))
  simp only [Act.put, List.setIfInBounds_toArray, List.set_cons_zero, List.set_cons_succ, List.getElem_toArray, List.getElem_cons_zero, List.getElem_cons_succ]
  refine wpAnyH_take (i := 25) (v := ?v50) rfl (by kernel_rfl) (by kernel_rfl) (by kernel_rfl) (fun _ _ _ h => h) (Or.inl ⟨by rfl, ?hy50⟩) (by assumption) ?rest50
  case hy50 => (intro w hSw; (try dsimp only at hSw); go_simp; (first | done | with_reducible rfl))
  simp only [Act.put, List.setIfInBounds_toArray, List.set_cons_zero, List.set_cons_succ, List.getElem_toArray, List.getElem_cons_zero, List.getElem_cons_succ]
  refine wpAnyH_done (by kernel_rfl) ?_ _
  go_wp2_with fail
  go_ret
  exact ⟨rfl, below_step B6.out HB0.out⟩
set_option maxHeartbeats 4000000 in
theorem walk_orders_10 (a b c d e_ p q r s t ph : Int) (w : World) (h1 : rightB a b c d e_ = true) (h2 : rightB p q r s t = false) :
    Calls Tryd.prog 7 #[.agg #[.int .i64 a, .int .i64 b, .int .i64 c, .int .i64 d, .int .i64 e_], .agg #[.int .i64 p, .int .i64 q, .int .i64 r, .int .i64 s, .int .i64 t], .int .i64 ph] w fun e w' => e = .returned (.bool true) ∧ Below w.heap.size w w' := by
  obtain ⟨PU, hPU⟩ : ∃ PU, PU = packU a b := ⟨_, rfl⟩
  obtain ⟨PV, hPV⟩ : ∃ PV, PV = packV c d e_ := ⟨_, rfl⟩
  have HPA := Lib.hid (fun W => pack_yes a b c d e_ (right_is h1) h1 W)
  rw [← hPU, ← hPV] at HPA
  have HPB := Lib.hid (fun W => pack_no p q r s t h2 W)
  clear hPU hPV
  clear h1 h2
  have A1 := (Below.refl w.heap.size w).alloc (Nat.le_refl _) (.cells #[.int .i64 a, .int .i64 b, .int .i64 c, .int .i64 d, .int .i64 e_] 23)
  have A2 := A1.alloc A1.size (.cells #[.int .i64 p, .int .i64 q, .int .i64 r, .int .i64 s, .int .i64 t] 23)
  have al2 := (Below.refl (w.alloc (.cells #[.int .i64 a, .int .i64 b, .int .i64 c, .int .i64 d, .int .i64 e_] 23)).heap.size (w.alloc (.cells #[.int .i64 a, .int .i64 b, .int .i64 c, .int .i64 d, .int .i64 e_] 23))).alloc (Nat.le_refl _) (.cells #[.int .i64 p, .int .i64 q, .int .i64 r, .int .i64 s, .int .i64 t] 23)
  have hz1 : (w.alloc (.cells #[.int .i64 a, .int .i64 b, .int .i64 c, .int .i64 d, .int .i64 e_] 23)).heap.size = w.heap.size + 1 := by simp
  have cx := cells_five w (.int .i64 a) (.int .i64 b) (.int .i64 c) (.int .i64 d) (.int .i64 e_) 23
  have cy := cells_five (w.alloc (.cells #[.int .i64 a, .int .i64 b, .int .i64 c, .int .i64 d, .int .i64 e_] 23)) (.int .i64 p) (.int .i64 q) (.int .i64 r) (.int .i64 s) (.int .i64 t) 23
  rw [hz1] at cy
  have x0 := cell_step al2 (cx 0 (by omega))
  have x1 := cell_step al2 (cx 1 (by omega))
  have x2 := cell_step al2 (cx 2 (by omega))
  have x3 := cell_step al2 (cx 3 (by omega))
  have x4 := cell_step al2 (cx 4 (by omega))
  have y0 := cy 0 (by omega)
  have y1 := cy 1 (by omega)
  have y2 := cy 2 (by omega)
  have y3 := cy 3 (by omega)
  have y4 := cy 4 (by omega)
  have HC := Lib.hid (fun W => compare_any a b c d e_ p q r s t W)
  have HC2 := Lib.hid (fun W => compare_any p q r s t a b c d e_ W)
  have HR := Lib.hid (fun W => refCompare_any a b c d e_ p q r s t W)
  rw [cmpL_neg (tagXs a b c d e_) (tagXs p q r s t)] at HC2
  have hrange := cmpL_range (tagXs a b c d e_) (tagXs p q r s t)
  have hzero := cmpL_tag a b c d e_ p q r s t
  generalize cmpL (tagXs a b c d e_) (tagXs p q r s t) = n at *
  have heq := fun W => eql_tag a b c d e_ p q r s t W
  rw [← hzero] at heq
  obtain ⟨n1, n2⟩ := hrange
  have HP := Lib.hid (fun W => phase_any ph W)
  have HQ := Lib.hid (fun W => refPhase_any ph W)
  generalize phaseT ph = PH at *
  have hsame : (n == n) = true := by simp
  have hneg : IntKind.i64.wrap (-n) = -n := IntWalk.i64_in _ (by omega)
  clear cx cy al2 A1 hz1 hzero
  go_enter Tryd.func7, Tryd.ntmps7
  go_wp2_with fail
  generalize (w.alloc (.cells #[.int .i64 a, .int .i64 b, .int .i64 c, .int .i64 d, .int .i64 e_] 23)).alloc (.cells #[.int .i64 p, .int .i64 q, .int .i64 r, .int .i64 s, .int .i64 t] 23) = W0 at *
  refine (HC.out _).mono ?_
  rintro e w1 ⟨rfl, b1⟩
  have x0 := cell_step b1 x0
  have x1 := cell_step b1 x1
  have x2 := cell_step b1 x2
  have x3 := cell_step b1 x3
  have x4 := cell_step b1 x4
  have y0 := cell_step b1 y0
  have y1 := cell_step b1 y1
  have y2 := cell_step b1 y2
  have y3 := cell_step b1 y3
  have y4 := cell_step b1 y4
  have B1 := Lib.hid (below_step A2 b1)
  clear b1 A2
  go_wp2_with fail
  refine (HR.out _).mono ?_
  rintro e w2 ⟨rfl, b2⟩
  have x0 := cell_step b2 x0
  have x1 := cell_step b2 x1
  have x2 := cell_step b2 x2
  have x3 := cell_step b2 x3
  have x4 := cell_step b2 x4
  have y0 := cell_step b2 y0
  have y1 := cell_step b2 y1
  have y2 := cell_step b2 y2
  have y3 := cell_step b2 y3
  have y4 := cell_step b2 y4
  have B2 := Lib.hid (below_step B1.out b2)
  clear b2
  go_wp2_with fail
  refine (HC2.out _).mono ?_
  rintro e w3 ⟨rfl, b3⟩
  have x0 := cell_step b3 x0
  have x1 := cell_step b3 x1
  have x2 := cell_step b3 x2
  have x3 := cell_step b3 x3
  have x4 := cell_step b3 x4
  have y0 := cell_step b3 y0
  have y1 := cell_step b3 y1
  have y2 := cell_step b3 y2
  have y3 := cell_step b3 y3
  have y4 := cell_step b3 y4
  have B3 := Lib.hid (below_step B2.out b3)
  clear b3
  go_wp2_with fail
  refine (HP.out _).mono ?_
  rintro e w4 ⟨rfl, rfl⟩
  go_wp2_with fail
  refine (HQ.out _).mono ?_
  rintro e w4 ⟨rfl, rfl⟩
  go_wp2_with fail
  refine (HPA.out _).mono ?_
  rintro e w5 ⟨rfl, b5⟩
  have x0 := cell_step b5 x0
  have x1 := cell_step b5 x1
  have x2 := cell_step b5 x2
  have x3 := cell_step b5 x3
  have x4 := cell_step b5 x4
  have y0 := cell_step b5 y0
  have y1 := cell_step b5 y1
  have y2 := cell_step b5 y2
  have y3 := cell_step b5 y3
  have y4 := cell_step b5 y4
  have al5 := (Below.refl w5.heap.size w5).alloc (Nat.le_refl _) (.cells #[.int .u64 PU, .int .u64 PV] 25)
  have x0 := cell_step al5 x0
  have x1 := cell_step al5 x1
  have x2 := cell_step al5 x2
  have x3 := cell_step al5 x3
  have x4 := cell_step al5 x4
  have y0 := cell_step al5 y0
  have y1 := cell_step al5 y1
  have y2 := cell_step al5 y2
  have y3 := cell_step al5 y3
  have y4 := cell_step al5 y4
  have z5 := cells_two w5 (.int .u64 PU) (.int .u64 PV) 25
  obtain ⟨p0, p1⟩ := z5
  have B5 := Lib.hid (below_step (below_step B3.out b5) al5)
  clear b5 al5
  go_wp2_with fail
  obtain ⟨NA, hNA⟩ : ∃ NA, NA = w5.heap.size := ⟨_, rfl⟩
  rw [← hNA] at p0 p1 ⊢
  generalize w5.alloc (.cells #[.int .u64 PU, .int .u64 PV] 25) = W5 at *
  clear hNA
  refine (HPB.out _).mono ?_
  rintro e w6 ⟨rfl, b6⟩
  have p0 := cell_step b6 p0
  have p1 := cell_step b6 p1
  have al6 := (Below.refl w6.heap.size w6).alloc (Nat.le_refl _) (.cells #[.int .u64 0, .int .u64 0] 25)
  have p0 := cell_step al6 p0
  have p1 := cell_step al6 p1
  have z6 := cells_two w6 (.int .u64 0) (.int .u64 0) 25
  obtain ⟨q0, q1⟩ := z6
  have B6 := Lib.hid (below_step (below_step B5.out b6) al6)
  clear b6 al6 x0 x1 x2 x3 x4 y0 y1 y2 y3 y4
  go_wp2_with fail
  obtain ⟨NB, hNB⟩ : ∃ NB, NB = w6.heap.size := ⟨_, rfl⟩
  rw [← hNB] at q0 q1 ⊢
  generalize w6.alloc (.cells #[.int .u64 0, .int .u64 0] 25) = W6 at *
  clear hNB
  refine wp_region_held_drew (S := fun w' => w'.cell? ⟨NA, 0, none⟩ = some (.int .u64 PU) ∧ w'.cell? ⟨NA, 1, none⟩ = some (.int .u64 PV) ∧ w'.cell? ⟨NB, 0, none⟩ = some (.int .u64 0) ∧ w'.cell? ⟨NB, 1, none⟩ = some (.int .u64 0) ∧ Below W6.heap.size W6 w') (by kernel_rfl) ?_ (fun hHeld => ?_)
  · exact ⟨p0, p1, q0, q1, (Below.refl _ _).drew⟩
  refine wpAnyH_ready (rs := [0]) (by kernel_rfl) (by simp) ?_
  refine AllReadyH.cons rfl (fun K hK => ?_) AllReadyH.nil
  simp only [List.getElem_toArray, List.getElem_cons_zero]
  go_simp
  go_at_call 11
  obtain ⟨h_0, h_1, h_2, h_3, h_B⟩ := hHeld
  refine (alive_any _).mono ?_
  rintro e w_k0 ⟨rfl, k0⟩
  have HB0 := Lib.hid (below_step h_B k0)
  go_wp2_with fail
  refine hK.out _ _ ⟨cell_step k0 h_0, cell_step k0 h_1, cell_step k0 h_2, cell_step k0 h_3, below_step h_B k0⟩ (fun hHeld => ?_)
  clear hK K h_0 h_1 h_2 h_3 h_B
  try simp only [Act.put, List.setIfInBounds_toArray, List.set_cons_zero, List.set_cons_succ, List.getElem_toArray, List.getElem_cons_zero, List.getElem_cons_succ]
  refine wpAnyH_take (i := 1) (v := ?v51) rfl (by kernel_rfl) (by kernel_rfl) (by kernel_rfl) (fun _ _ _ h => h) (Or.inl ⟨by rfl, ?hy51⟩) (by assumption) ?rest51
  case hy51 => (intro w hSw; (try dsimp only at hSw); go_simp; (first | done | with_reducible rfl))
  simp only [Act.put, List.setIfInBounds_toArray, List.set_cons_zero, List.set_cons_succ, List.getElem_toArray, List.getElem_cons_zero, List.getElem_cons_succ]
  refine wpAnyH_take (i := 2) (v := ?v52) rfl (by kernel_rfl) (by kernel_rfl) (by kernel_rfl) (fun _ _ _ h => h) (Or.inl ⟨by rfl, ?hy52⟩) (by assumption) ?rest52
  case hy52 => (intro w hSw; (try dsimp only at hSw); go_simp; (first | done | with_reducible rfl))
  simp only [Act.put, List.setIfInBounds_toArray, List.set_cons_zero, List.set_cons_succ, List.getElem_toArray, List.getElem_cons_zero, List.getElem_cons_succ]
  refine wpAnyH_take (i := 3) (v := ?v53) rfl (by kernel_rfl) (by kernel_rfl) (by kernel_rfl) (fun _ _ _ h => h) (Or.inl ⟨by rfl, ?hy53⟩) (by assumption) ?rest53
  case hy53 => (intro w hSw; (try dsimp only at hSw); go_simp; (first | done | with_reducible rfl))
  simp only [Act.put, List.setIfInBounds_toArray, List.set_cons_zero, List.set_cons_succ, List.getElem_toArray, List.getElem_cons_zero, List.getElem_cons_succ]
  refine wpAnyH_take (i := 4) (v := ?v54) rfl (by kernel_rfl) (by kernel_rfl) (by kernel_rfl) (fun _ _ _ h => h) (Or.inl ⟨by rfl, ?hy54⟩) (by assumption) ?rest54
  case hy54 => (intro w hSw; (try dsimp only at hSw); go_simp; (first | done | with_reducible rfl))
  simp only [Act.put, List.setIfInBounds_toArray, List.set_cons_zero, List.set_cons_succ, List.getElem_toArray, List.getElem_cons_zero, List.getElem_cons_succ]
  refine wpAnyH_take (i := 5) (v := ?v55) rfl (by kernel_rfl) (by kernel_rfl) (by kernel_rfl) (fun _ _ _ h => h) (Or.inl ⟨by rfl, ?hy55⟩) (by assumption) ?rest55
  case hy55 => (intro w hSw; (try dsimp only at hSw); go_simp; (first | done | with_reducible rfl))
  simp only [Act.put, List.setIfInBounds_toArray, List.set_cons_zero, List.set_cons_succ, List.getElem_toArray, List.getElem_cons_zero, List.getElem_cons_succ]
  refine wpAnyH_take (i := 6) (v := ?v56) rfl (by kernel_rfl) (by kernel_rfl) (by kernel_rfl) (fun _ _ _ h => h) (Or.inl ⟨by rfl, ?hy56⟩) (by assumption) ?rest56
  case hy56 => (intro w hSw; (try dsimp only at hSw); go_simp; (first | done | with_reducible rfl))
  simp only [Act.put, List.setIfInBounds_toArray, List.set_cons_zero, List.set_cons_succ, List.getElem_toArray, List.getElem_cons_zero, List.getElem_cons_succ]
  refine wpAnyH_take (i := 7) (v := ?v57) rfl (by kernel_rfl) (by kernel_rfl) (by kernel_rfl) (fun _ _ _ h => h) (Or.inl ⟨by rfl, ?hy57⟩) (by assumption) ?rest57
  case hy57 => (intro w hSw; (try dsimp only at hSw); go_simp; (first | done | with_reducible rfl))
  simp only [Act.put, List.setIfInBounds_toArray, List.set_cons_zero, List.set_cons_succ, List.getElem_toArray, List.getElem_cons_zero, List.getElem_cons_succ]
  refine wpAnyH_take (i := 8) (v := ?v58) rfl (by kernel_rfl) (by kernel_rfl) (by kernel_rfl) (fun _ _ _ h => h) (Or.inl ⟨by rfl, ?hy58⟩) (by assumption) ?rest58
  case hy58 => (intro w hSw; (try dsimp only at hSw); go_simp; (first | done | with_reducible rfl))
  simp only [Act.put, List.setIfInBounds_toArray, List.set_cons_zero, List.set_cons_succ, List.getElem_toArray, List.getElem_cons_zero, List.getElem_cons_succ]
  refine wpAnyH_take (i := 9) (v := undef) rfl (by kernel_rfl) (by kernel_rfl) (by kernel_rfl) (fun _ _ _ h => h) (Or.inr ⟨by rfl, rfl⟩) (by assumption) ?rest59
  simp only [Act.put, List.setIfInBounds_toArray, List.set_cons_zero, List.set_cons_succ, List.getElem_toArray, List.getElem_cons_zero, List.getElem_cons_succ]
  refine wpAnyH_take (i := 10) (v := undef) rfl (by kernel_rfl) (by kernel_rfl) (by kernel_rfl) (fun _ _ _ h => h) (Or.inr ⟨by rfl, rfl⟩) (by assumption) ?rest60
  simp only [Act.put, List.setIfInBounds_toArray, List.set_cons_zero, List.set_cons_succ, List.getElem_toArray, List.getElem_cons_zero, List.getElem_cons_succ]
  refine wpAnyH_take (i := 11) (v := undef) rfl (by kernel_rfl) (by kernel_rfl) (by kernel_rfl) (fun _ _ _ h => h) (Or.inr ⟨by rfl, rfl⟩) (by assumption) ?rest61
  simp only [Act.put, List.setIfInBounds_toArray, List.set_cons_zero, List.set_cons_succ, List.getElem_toArray, List.getElem_cons_zero, List.getElem_cons_succ]
  refine wpAnyH_take (i := 12) (v := undef) rfl (by kernel_rfl) (by kernel_rfl) (by kernel_rfl) (fun _ _ _ h => h) (Or.inr ⟨by rfl, rfl⟩) (by assumption) ?rest62
  simp only [Act.put, List.setIfInBounds_toArray, List.set_cons_zero, List.set_cons_succ, List.getElem_toArray, List.getElem_cons_zero, List.getElem_cons_succ]
  refine wpAnyH_take (i := 13) (v := undef) rfl (by kernel_rfl) (by kernel_rfl) (by kernel_rfl) (fun _ _ _ h => h) (Or.inr ⟨by rfl, rfl⟩) (by assumption) ?rest63
  simp only [Act.put, List.setIfInBounds_toArray, List.set_cons_zero, List.set_cons_succ, List.getElem_toArray, List.getElem_cons_zero, List.getElem_cons_succ]
  refine wpAnyH_take (i := 14) (v := undef) rfl (by kernel_rfl) (by kernel_rfl) (by kernel_rfl) (fun _ _ _ h => h) (Or.inr ⟨by rfl, rfl⟩) (by assumption) ?rest64
  simp only [Act.put, List.setIfInBounds_toArray, List.set_cons_zero, List.set_cons_succ, List.getElem_toArray, List.getElem_cons_zero, List.getElem_cons_succ]
  refine wpAnyH_take (i := 15) (v := undef) rfl (by kernel_rfl) (by kernel_rfl) (by kernel_rfl) (fun _ _ _ h => h) (Or.inr ⟨by rfl, rfl⟩) (by assumption) ?rest65
  simp only [Act.put, List.setIfInBounds_toArray, List.set_cons_zero, List.set_cons_succ, List.getElem_toArray, List.getElem_cons_zero, List.getElem_cons_succ]
  refine wpAnyH_take (i := 16) (v := undef) rfl (by kernel_rfl) (by kernel_rfl) (by kernel_rfl) (fun _ _ _ h => h) (Or.inr ⟨by rfl, rfl⟩) (by assumption) ?rest66
  simp only [Act.put, List.setIfInBounds_toArray, List.set_cons_zero, List.set_cons_succ, List.getElem_toArray, List.getElem_cons_zero, List.getElem_cons_succ]
  refine wpAnyH_take (i := 17) (v := undef) rfl (by kernel_rfl) (by kernel_rfl) (by kernel_rfl) (fun _ _ _ h => h) (Or.inr ⟨by rfl, rfl⟩) (by assumption) ?rest67
  simp only [Act.put, List.setIfInBounds_toArray, List.set_cons_zero, List.set_cons_succ, List.getElem_toArray, List.getElem_cons_zero, List.getElem_cons_succ]
  refine wpAnyH_take (i := 18) (v := undef) rfl (by kernel_rfl) (by kernel_rfl) (by kernel_rfl) (fun _ _ _ h => h) (Or.inr ⟨by rfl, rfl⟩) (by assumption) ?rest68
  simp only [Act.put, List.setIfInBounds_toArray, List.set_cons_zero, List.set_cons_succ, List.getElem_toArray, List.getElem_cons_zero, List.getElem_cons_succ]
  refine wpAnyH_take (i := 19) (v := undef) rfl (by kernel_rfl) (by kernel_rfl) (by kernel_rfl) (fun _ _ _ h => h) (Or.inr ⟨by rfl, rfl⟩) (by assumption) ?rest69
  simp only [Act.put, List.setIfInBounds_toArray, List.set_cons_zero, List.set_cons_succ, List.getElem_toArray, List.getElem_cons_zero, List.getElem_cons_succ]
  refine wpAnyH_take (i := 20) (v := undef) rfl (by kernel_rfl) (by kernel_rfl) (by kernel_rfl) (fun _ _ _ h => h) (Or.inr ⟨by rfl, rfl⟩) (by assumption) ?rest70
  simp only [Act.put, List.setIfInBounds_toArray, List.set_cons_zero, List.set_cons_succ, List.getElem_toArray, List.getElem_cons_zero, List.getElem_cons_succ]
  refine wpAnyH_take (i := 21) (v := undef) rfl (by kernel_rfl) (by kernel_rfl) (by kernel_rfl) (fun _ _ _ h => h) (Or.inr ⟨by rfl, rfl⟩) (by assumption) ?rest71
  simp only [Act.put, List.setIfInBounds_toArray, List.set_cons_zero, List.set_cons_succ, List.getElem_toArray, List.getElem_cons_zero, List.getElem_cons_succ]
  refine wpAnyH_take (i := 22) (v := undef) rfl (by kernel_rfl) (by kernel_rfl) (by kernel_rfl) (fun _ _ _ h => h) (Or.inr ⟨by rfl, rfl⟩) (by assumption) ?rest72
  simp only [Act.put, List.setIfInBounds_toArray, List.set_cons_zero, List.set_cons_succ, List.getElem_toArray, List.getElem_cons_zero, List.getElem_cons_succ]
  refine wpAnyH_take (i := 23) (v := ?v73) rfl (by kernel_rfl) (by kernel_rfl) (by kernel_rfl) (fun _ _ _ h => h) (Or.inl ⟨by rfl, ?hy73⟩) (by assumption) ?rest73
  case hy73 => (intro w hSw; (try dsimp only at hSw); go_simp; (first | done | with_reducible rfl))
  simp only [Act.put, List.setIfInBounds_toArray, List.set_cons_zero, List.set_cons_succ, List.getElem_toArray, List.getElem_cons_zero, List.getElem_cons_succ]
  refine wpAnyH_take (i := 24) (v := ?v74) rfl (by kernel_rfl) (by kernel_rfl) (by kernel_rfl) (fun _ _ _ h => h) (Or.inl ⟨by rfl, ?hy74⟩) (by assumption) ?rest74
  case hy74 => (intro w hSw; (try dsimp only at hSw); go_simp; (first | done | with_reducible rfl))
  simp only [Act.put, List.setIfInBounds_toArray, List.set_cons_zero, List.set_cons_succ, List.getElem_toArray, List.getElem_cons_zero, List.getElem_cons_succ]
  refine wpAnyH_take (i := 25) (v := ?v75) rfl (by kernel_rfl) (by kernel_rfl) (by kernel_rfl) (fun _ _ _ h => h) (Or.inl ⟨by rfl, ?hy75⟩) (by assumption) ?rest75
  case hy75 => (intro w hSw; (try dsimp only at hSw); go_simp; (first | done | with_reducible rfl))
  simp only [Act.put, List.setIfInBounds_toArray, List.set_cons_zero, List.set_cons_succ, List.getElem_toArray, List.getElem_cons_zero, List.getElem_cons_succ]
  refine wpAnyH_done (by kernel_rfl) ?_ _
  go_wp2_with fail
  go_ret
  exact ⟨rfl, below_step B6.out HB0.out⟩
set_option maxHeartbeats 4000000 in
theorem walk_orders_11 (a b c d e_ p q r s t ph : Int) (w : World) (h1 : rightB a b c d e_ = true) (h2 : rightB p q r s t = true) :
    Calls Tryd.prog 7 #[.agg #[.int .i64 a, .int .i64 b, .int .i64 c, .int .i64 d, .int .i64 e_], .agg #[.int .i64 p, .int .i64 q, .int .i64 r, .int .i64 s, .int .i64 t], .int .i64 ph] w fun e w' => e = .returned (.bool true) ∧ Below w.heap.size w w' := by
  obtain ⟨PU, hPU⟩ : ∃ PU, PU = packU a b := ⟨_, rfl⟩
  obtain ⟨PV, hPV⟩ : ∃ PV, PV = packV c d e_ := ⟨_, rfl⟩
  have HPA := Lib.hid (fun W => pack_yes a b c d e_ (right_is h1) h1 W)
  rw [← hPU, ← hPV] at HPA
  obtain ⟨QU, hQU⟩ : ∃ QU, QU = packU p q := ⟨_, rfl⟩
  obtain ⟨QV, hQV⟩ : ∃ QV, QV = packV r s t := ⟨_, rfl⟩
  have HPB := Lib.hid (fun W => pack_yes p q r s t (right_is h2) h2 W)
  rw [← hQU, ← hQV] at HPB
  have HN := Lib.hid (cmp_pack (right_is h1) (right_is h2))
  rw [← hPU, ← hPV, ← hQU, ← hQV] at HN
  clear hPU hPV hQU hQV
  clear h1 h2
  have A1 := (Below.refl w.heap.size w).alloc (Nat.le_refl _) (.cells #[.int .i64 a, .int .i64 b, .int .i64 c, .int .i64 d, .int .i64 e_] 23)
  have A2 := A1.alloc A1.size (.cells #[.int .i64 p, .int .i64 q, .int .i64 r, .int .i64 s, .int .i64 t] 23)
  have al2 := (Below.refl (w.alloc (.cells #[.int .i64 a, .int .i64 b, .int .i64 c, .int .i64 d, .int .i64 e_] 23)).heap.size (w.alloc (.cells #[.int .i64 a, .int .i64 b, .int .i64 c, .int .i64 d, .int .i64 e_] 23))).alloc (Nat.le_refl _) (.cells #[.int .i64 p, .int .i64 q, .int .i64 r, .int .i64 s, .int .i64 t] 23)
  have hz1 : (w.alloc (.cells #[.int .i64 a, .int .i64 b, .int .i64 c, .int .i64 d, .int .i64 e_] 23)).heap.size = w.heap.size + 1 := by simp
  have cx := cells_five w (.int .i64 a) (.int .i64 b) (.int .i64 c) (.int .i64 d) (.int .i64 e_) 23
  have cy := cells_five (w.alloc (.cells #[.int .i64 a, .int .i64 b, .int .i64 c, .int .i64 d, .int .i64 e_] 23)) (.int .i64 p) (.int .i64 q) (.int .i64 r) (.int .i64 s) (.int .i64 t) 23
  rw [hz1] at cy
  have x0 := cell_step al2 (cx 0 (by omega))
  have x1 := cell_step al2 (cx 1 (by omega))
  have x2 := cell_step al2 (cx 2 (by omega))
  have x3 := cell_step al2 (cx 3 (by omega))
  have x4 := cell_step al2 (cx 4 (by omega))
  have y0 := cy 0 (by omega)
  have y1 := cy 1 (by omega)
  have y2 := cy 2 (by omega)
  have y3 := cy 3 (by omega)
  have y4 := cy 4 (by omega)
  have HC := Lib.hid (fun W => compare_any a b c d e_ p q r s t W)
  have HC2 := Lib.hid (fun W => compare_any p q r s t a b c d e_ W)
  have HR := Lib.hid (fun W => refCompare_any a b c d e_ p q r s t W)
  rw [cmpL_neg (tagXs a b c d e_) (tagXs p q r s t)] at HC2
  have hrange := cmpL_range (tagXs a b c d e_) (tagXs p q r s t)
  have hzero := cmpL_tag a b c d e_ p q r s t
  generalize cmpL (tagXs a b c d e_) (tagXs p q r s t) = n at *
  have heq := fun W => eql_tag a b c d e_ p q r s t W
  rw [← hzero] at heq
  obtain ⟨n1, n2⟩ := hrange
  have HP := Lib.hid (fun W => phase_any ph W)
  have HQ := Lib.hid (fun W => refPhase_any ph W)
  generalize phaseT ph = PH at *
  have hsame : (n == n) = true := by simp
  have hneg : IntKind.i64.wrap (-n) = -n := IntWalk.i64_in _ (by omega)
  clear cx cy al2 A1 hz1 hzero
  go_enter Tryd.func7, Tryd.ntmps7
  go_wp2_with fail
  generalize (w.alloc (.cells #[.int .i64 a, .int .i64 b, .int .i64 c, .int .i64 d, .int .i64 e_] 23)).alloc (.cells #[.int .i64 p, .int .i64 q, .int .i64 r, .int .i64 s, .int .i64 t] 23) = W0 at *
  refine (HC.out _).mono ?_
  rintro e w1 ⟨rfl, b1⟩
  have x0 := cell_step b1 x0
  have x1 := cell_step b1 x1
  have x2 := cell_step b1 x2
  have x3 := cell_step b1 x3
  have x4 := cell_step b1 x4
  have y0 := cell_step b1 y0
  have y1 := cell_step b1 y1
  have y2 := cell_step b1 y2
  have y3 := cell_step b1 y3
  have y4 := cell_step b1 y4
  have B1 := Lib.hid (below_step A2 b1)
  clear b1 A2
  go_wp2_with fail
  refine (HR.out _).mono ?_
  rintro e w2 ⟨rfl, b2⟩
  have x0 := cell_step b2 x0
  have x1 := cell_step b2 x1
  have x2 := cell_step b2 x2
  have x3 := cell_step b2 x3
  have x4 := cell_step b2 x4
  have y0 := cell_step b2 y0
  have y1 := cell_step b2 y1
  have y2 := cell_step b2 y2
  have y3 := cell_step b2 y3
  have y4 := cell_step b2 y4
  have B2 := Lib.hid (below_step B1.out b2)
  clear b2
  go_wp2_with fail
  refine (HC2.out _).mono ?_
  rintro e w3 ⟨rfl, b3⟩
  have x0 := cell_step b3 x0
  have x1 := cell_step b3 x1
  have x2 := cell_step b3 x2
  have x3 := cell_step b3 x3
  have x4 := cell_step b3 x4
  have y0 := cell_step b3 y0
  have y1 := cell_step b3 y1
  have y2 := cell_step b3 y2
  have y3 := cell_step b3 y3
  have y4 := cell_step b3 y4
  have B3 := Lib.hid (below_step B2.out b3)
  clear b3
  go_wp2_with fail
  refine (HP.out _).mono ?_
  rintro e w4 ⟨rfl, rfl⟩
  go_wp2_with fail
  refine (HQ.out _).mono ?_
  rintro e w4 ⟨rfl, rfl⟩
  go_wp2_with fail
  refine (HPA.out _).mono ?_
  rintro e w5 ⟨rfl, b5⟩
  have x0 := cell_step b5 x0
  have x1 := cell_step b5 x1
  have x2 := cell_step b5 x2
  have x3 := cell_step b5 x3
  have x4 := cell_step b5 x4
  have y0 := cell_step b5 y0
  have y1 := cell_step b5 y1
  have y2 := cell_step b5 y2
  have y3 := cell_step b5 y3
  have y4 := cell_step b5 y4
  have al5 := (Below.refl w5.heap.size w5).alloc (Nat.le_refl _) (.cells #[.int .u64 PU, .int .u64 PV] 25)
  have x0 := cell_step al5 x0
  have x1 := cell_step al5 x1
  have x2 := cell_step al5 x2
  have x3 := cell_step al5 x3
  have x4 := cell_step al5 x4
  have y0 := cell_step al5 y0
  have y1 := cell_step al5 y1
  have y2 := cell_step al5 y2
  have y3 := cell_step al5 y3
  have y4 := cell_step al5 y4
  have z5 := cells_two w5 (.int .u64 PU) (.int .u64 PV) 25
  obtain ⟨p0, p1⟩ := z5
  have B5 := Lib.hid (below_step (below_step B3.out b5) al5)
  clear b5 al5
  go_wp2_with fail
  obtain ⟨NA, hNA⟩ : ∃ NA, NA = w5.heap.size := ⟨_, rfl⟩
  rw [← hNA] at p0 p1 ⊢
  generalize w5.alloc (.cells #[.int .u64 PU, .int .u64 PV] 25) = W5 at *
  clear hNA
  refine (HPB.out _).mono ?_
  rintro e w6 ⟨rfl, b6⟩
  have p0 := cell_step b6 p0
  have p1 := cell_step b6 p1
  have al6 := (Below.refl w6.heap.size w6).alloc (Nat.le_refl _) (.cells #[.int .u64 QU, .int .u64 QV] 25)
  have p0 := cell_step al6 p0
  have p1 := cell_step al6 p1
  have z6 := cells_two w6 (.int .u64 QU) (.int .u64 QV) 25
  obtain ⟨q0, q1⟩ := z6
  have B6 := Lib.hid (below_step (below_step B5.out b6) al6)
  clear b6 al6 x0 x1 x2 x3 x4 y0 y1 y2 y3 y4
  go_wp2_with fail
  obtain ⟨NB, hNB⟩ : ∃ NB, NB = w6.heap.size := ⟨_, rfl⟩
  rw [← hNB] at q0 q1 ⊢
  generalize w6.alloc (.cells #[.int .u64 QU, .int .u64 QV] 25) = W6 at *
  clear hNB
  refine wp_region_held_drew (S := fun w' => w'.cell? ⟨NA, 0, none⟩ = some (.int .u64 PU) ∧ w'.cell? ⟨NA, 1, none⟩ = some (.int .u64 PV) ∧ w'.cell? ⟨NB, 0, none⟩ = some (.int .u64 QU) ∧ w'.cell? ⟨NB, 1, none⟩ = some (.int .u64 QV) ∧ Below W6.heap.size W6 w') (by kernel_rfl) ?_ (fun hHeld => ?_)
  · exact ⟨p0, p1, q0, q1, (Below.refl _ _).drew⟩
  refine wpAnyH_ready (rs := [0]) (by kernel_rfl) (by simp) ?_
  refine AllReadyH.cons rfl (fun K hK => ?_) AllReadyH.nil
  simp only [List.getElem_toArray, List.getElem_cons_zero]
  go_simp
  go_at_call 11
  obtain ⟨h_0, h_1, h_2, h_3, h_B⟩ := hHeld
  refine (alive_any _).mono ?_
  rintro e w_k0 ⟨rfl, k0⟩
  have HB0 := Lib.hid (below_step h_B k0)
  go_wp2_with fail
  refine hK.out _ _ ⟨cell_step k0 h_0, cell_step k0 h_1, cell_step k0 h_2, cell_step k0 h_3, below_step h_B k0⟩ (fun hHeld => ?_)
  clear hK K h_0 h_1 h_2 h_3 h_B
  try simp only [Act.put, List.setIfInBounds_toArray, List.set_cons_zero, List.set_cons_succ, List.getElem_toArray, List.getElem_cons_zero, List.getElem_cons_succ]
  refine wpAnyH_take (i := 1) (v := ?v76) rfl (by kernel_rfl) (by kernel_rfl) (by kernel_rfl) (fun _ _ _ h => h) (Or.inl ⟨by rfl, ?hy76⟩) (by assumption) ?rest76
  case hy76 => (intro w hSw; (try dsimp only at hSw); go_simp; (first | done | with_reducible rfl))
  simp only [Act.put, List.setIfInBounds_toArray, List.set_cons_zero, List.set_cons_succ, List.getElem_toArray, List.getElem_cons_zero, List.getElem_cons_succ]
  refine wpAnyH_take (i := 2) (v := ?v77) rfl (by kernel_rfl) (by kernel_rfl) (by kernel_rfl) (fun _ _ _ h => h) (Or.inl ⟨by rfl, ?hy77⟩) (by assumption) ?rest77
  case hy77 => (intro w hSw; (try dsimp only at hSw); go_simp; (first | done | with_reducible rfl))
  simp only [Act.put, List.setIfInBounds_toArray, List.set_cons_zero, List.set_cons_succ, List.getElem_toArray, List.getElem_cons_zero, List.getElem_cons_succ]
  refine wpAnyH_take (i := 3) (v := ?v78) rfl (by kernel_rfl) (by kernel_rfl) (by kernel_rfl) (fun _ _ _ h => h) (Or.inl ⟨by rfl, ?hy78⟩) (by assumption) ?rest78
  case hy78 => (intro w hSw; (try dsimp only at hSw); go_simp; (first | done | with_reducible rfl))
  simp only [Act.put, List.setIfInBounds_toArray, List.set_cons_zero, List.set_cons_succ, List.getElem_toArray, List.getElem_cons_zero, List.getElem_cons_succ]
  refine wpAnyH_take (i := 4) (v := ?v79) rfl (by kernel_rfl) (by kernel_rfl) (by kernel_rfl) (fun _ _ _ h => h) (Or.inl ⟨by rfl, ?hy79⟩) (by assumption) ?rest79
  case hy79 => (intro w hSw; (try dsimp only at hSw); go_simp; (first | done | with_reducible rfl))
  simp only [Act.put, List.setIfInBounds_toArray, List.set_cons_zero, List.set_cons_succ, List.getElem_toArray, List.getElem_cons_zero, List.getElem_cons_succ]
  refine wpAnyH_take (i := 5) (v := ?v80) rfl (by kernel_rfl) (by kernel_rfl) (by kernel_rfl) (fun _ _ _ h => h) (Or.inl ⟨by rfl, ?hy80⟩) (by assumption) ?rest80
  case hy80 => (intro w hSw; (try dsimp only at hSw); go_simp; (first | done | with_reducible rfl))
  simp only [Act.put, List.setIfInBounds_toArray, List.set_cons_zero, List.set_cons_succ, List.getElem_toArray, List.getElem_cons_zero, List.getElem_cons_succ]
  refine wpAnyH_take (i := 6) (v := ?v81) rfl (by kernel_rfl) (by kernel_rfl) (by kernel_rfl) (fun _ _ _ h => h) (Or.inl ⟨by rfl, ?hy81⟩) (by assumption) ?rest81
  case hy81 => (intro w hSw; (try dsimp only at hSw); go_simp; (first | done | with_reducible rfl))
  simp only [Act.put, List.setIfInBounds_toArray, List.set_cons_zero, List.set_cons_succ, List.getElem_toArray, List.getElem_cons_zero, List.getElem_cons_succ]
  refine wpAnyH_take (i := 7) (v := ?v82) rfl (by kernel_rfl) (by kernel_rfl) (by kernel_rfl) (fun _ _ _ h => h) (Or.inl ⟨by rfl, ?hy82⟩) (by assumption) ?rest82
  case hy82 => (intro w hSw; (try dsimp only at hSw); go_simp; (first | done | with_reducible rfl))
  simp only [Act.put, List.setIfInBounds_toArray, List.set_cons_zero, List.set_cons_succ, List.getElem_toArray, List.getElem_cons_zero, List.getElem_cons_succ]
  refine wpAnyH_take (i := 8) (v := ?v83) rfl (by kernel_rfl) (by kernel_rfl) (by kernel_rfl) (fun _ _ _ h => h) (Or.inl ⟨by rfl, ?hy83⟩) (by assumption) ?rest83
  case hy83 => (intro w hSw; (try dsimp only at hSw); go_simp; (first | done | with_reducible rfl))
  simp only [Act.put, List.setIfInBounds_toArray, List.set_cons_zero, List.set_cons_succ, List.getElem_toArray, List.getElem_cons_zero, List.getElem_cons_succ]
  refine wpAnyH_take (i := 9) (v := ?v84) rfl (by kernel_rfl) (by kernel_rfl) (by kernel_rfl) (fun _ _ _ h => h) (Or.inl ⟨by rfl, ?hy84⟩) (by assumption) ?rest84
  case hy84 => (intro w hSw; (try dsimp only at hSw); go_simp; (first | done | with_reducible rfl))
  simp only [Act.put, List.setIfInBounds_toArray, List.set_cons_zero, List.set_cons_succ, List.getElem_toArray, List.getElem_cons_zero, List.getElem_cons_succ]
  refine wpAnyH_take (i := 10) (v := ?v85) rfl (by kernel_rfl) (by kernel_rfl) (by kernel_rfl) (fun _ _ _ h => h) (Or.inl ⟨by rfl, ?hy85⟩) (by assumption) ?rest85
  case hy85 => (intro w hSw; (try dsimp only at hSw); go_simp; (first | done | with_reducible rfl))
  simp only [Act.put, List.setIfInBounds_toArray, List.set_cons_zero, List.set_cons_succ, List.getElem_toArray, List.getElem_cons_zero, List.getElem_cons_succ]
  refine wpAnyH_take (i := 11) (v := ?v86) rfl (by kernel_rfl) (by kernel_rfl) (by kernel_rfl) (fun _ _ _ h => h) (Or.inl ⟨by rfl, ?hy86⟩) (by assumption) ?rest86
  case hy86 => (intro w hSw; (try dsimp only at hSw); go_simp; (first | done | with_reducible rfl))
  simp only [Act.put, List.setIfInBounds_toArray, List.set_cons_zero, List.set_cons_succ, List.getElem_toArray, List.getElem_cons_zero, List.getElem_cons_succ]
  refine wpAnyH_take (i := 12) (v := ?v87) rfl (by kernel_rfl) (by kernel_rfl) (by kernel_rfl) (fun _ _ _ h => h) (Or.inl ⟨by rfl, ?hy87⟩) (by assumption) ?rest87
  case hy87 => (intro w hSw; (try dsimp only at hSw); go_simp; (first | done | with_reducible rfl))
  simp only [Act.put, List.setIfInBounds_toArray, List.set_cons_zero, List.set_cons_succ, List.getElem_toArray, List.getElem_cons_zero, List.getElem_cons_succ]
  refine wpAnyH_take (i := 13) (v := ?v88) rfl (by kernel_rfl) (by kernel_rfl) (by kernel_rfl) (fun _ _ _ h => h) (Or.inl ⟨by rfl, ?hy88⟩) (by assumption) ?rest88
  case hy88 => (intro w hSw; (try dsimp only at hSw); go_simp; (first | done | with_reducible rfl))
  simp only [Act.put, List.setIfInBounds_toArray, List.set_cons_zero, List.set_cons_succ, List.getElem_toArray, List.getElem_cons_zero, List.getElem_cons_succ]
  refine wpAnyH_take (i := 15) (v := ?v89) rfl (by kernel_rfl) (by kernel_rfl) (by kernel_rfl) (fun _ _ _ h => h) (Or.inl ⟨by rfl, ?hy89⟩) (by assumption) ?rest89
  case hy89 => (intro w hSw; (try dsimp only at hSw); go_simp; (first | done | with_reducible rfl))
  simp only [Act.put, List.setIfInBounds_toArray, List.set_cons_zero, List.set_cons_succ, List.getElem_toArray, List.getElem_cons_zero, List.getElem_cons_succ]
  refine wpAnyH_take (i := 16) (v := ?v90) rfl (by kernel_rfl) (by kernel_rfl) (by kernel_rfl) (fun _ _ _ h => h) (Or.inl ⟨by rfl, ?hy90⟩) (by assumption) ?rest90
  case hy90 => (intro w hSw; (try dsimp only at hSw); go_simp; (first | done | with_reducible rfl))
  simp only [Act.put, List.setIfInBounds_toArray, List.set_cons_zero, List.set_cons_succ, List.getElem_toArray, List.getElem_cons_zero, List.getElem_cons_succ]
  refine wpAnyH_take (i := 17) (v := ?v91) rfl (by kernel_rfl) (by kernel_rfl) (by kernel_rfl) (fun _ _ _ h => h) (Or.inl ⟨by rfl, ?hy91⟩) (by assumption) ?rest91
  case hy91 => (intro w hSw; (try dsimp only at hSw); go_simp; (first | done | with_reducible rfl))
  simp only [Act.put, List.setIfInBounds_toArray, List.set_cons_zero, List.set_cons_succ, List.getElem_toArray, List.getElem_cons_zero, List.getElem_cons_succ]
  refine wpAnyH_take (i := 18) (v := ?v92) rfl (by kernel_rfl) (by kernel_rfl) (by kernel_rfl) (fun _ _ _ h => h) (Or.inl ⟨by rfl, ?hy92⟩) (by assumption) ?rest92
  case hy92 => (intro w hSw; (try dsimp only at hSw); go_simp; (first | done | with_reducible rfl))
  simp only [Act.put, List.setIfInBounds_toArray, List.set_cons_zero, List.set_cons_succ, List.getElem_toArray, List.getElem_cons_zero, List.getElem_cons_succ]
  refine wpAnyH_ready (rs := [14]) (by kernel_rfl) (by simp) ?_
  refine AllReadyH.cons rfl (fun K hK => ?_) AllReadyH.nil
  simp only [List.getElem_toArray, List.getElem_cons_zero, List.getElem_cons_succ]
  go_simp
  go_at_call 24
  obtain ⟨h_0, h_1, h_2, h_3, h_B⟩ := hHeld
  refine (compareU_any _ _ _).mono ?_
  rintro e w_k1 ⟨rfl, k1⟩
  go_wp2_with fail
  refine hK.out _ _ ⟨cell_step k1 h_0, cell_step k1 h_1, cell_step k1 h_2, cell_step k1 h_3, below_step h_B k1⟩ (fun hHeld => ?_)
  clear hK K h_0 h_1 h_2 h_3 h_B
  try simp only [Act.put, List.setIfInBounds_toArray, List.set_cons_zero, List.set_cons_succ, List.getElem_toArray, List.getElem_cons_zero, List.getElem_cons_succ]
  refine wpAnyH_ready (rs := [19]) (by kernel_rfl) (by simp) ?_
  refine AllReadyH.cons rfl (fun K hK => ?_) AllReadyH.nil
  simp only [List.getElem_toArray, List.getElem_cons_zero, List.getElem_cons_succ]
  go_simp
  go_at_call 24
  obtain ⟨h_0, h_1, h_2, h_3, h_B⟩ := hHeld
  refine (compareU_any _ _ _).mono ?_
  rintro e w_k2 ⟨rfl, k2⟩
  have HB2 := Lib.hid (below_step h_B k2)
  go_wp2_with fail
  refine hK.out _ _ ⟨cell_step k2 h_0, cell_step k2 h_1, cell_step k2 h_2, cell_step k2 h_3, below_step h_B k2⟩ (fun hHeld => ?_)
  clear hK K h_0 h_1 h_2 h_3 h_B
  try simp only [Act.put, List.setIfInBounds_toArray, List.set_cons_zero, List.set_cons_succ, List.getElem_toArray, List.getElem_cons_zero, List.getElem_cons_succ]
  generalize Lib.compareInt PU QU = C1 at *
  generalize Lib.compareInt PV QV = C2 at *
  refine wpAnyH_ready (rs := [20]) (by kernel_rfl) (by simp) ?_
  refine AllReadyH.cons rfl (fun K hK => ?_) AllReadyH.nil
  try simp only [Act.put, List.setIfInBounds_toArray, List.set_cons_zero, List.set_cons_succ, List.getElem_toArray, List.getElem_cons_zero, List.getElem_cons_succ]
  go_simp
  obtain ⟨h_0, h_1, h_2, h_3, h_B⟩ := hHeld
  have k3 := (Below.refl w_k2.heap.size w_k2).alloc (Nat.le_refl _) (.cells #[.int .i64 C1, .int .i64 C2] 3)
  have z3 := cells_two w_k2 (.int .i64 C1) (.int .i64 C2) 3
  refine hK.out _ _ ⟨cell_step k3 h_0, cell_step k3 h_1, cell_step k3 h_2, cell_step k3 h_3, below_step h_B k3⟩ (fun hHeld => ?_)
  clear hK K h_0 h_1 h_2 h_3 h_B k3
  try simp only [Act.put, List.setIfInBounds_toArray, List.set_cons_zero, List.set_cons_succ, List.getElem_toArray, List.getElem_cons_zero, List.getElem_cons_succ]
  refine wpAnyH_ready (rs := [21]) (by kernel_rfl) (by simp) ?_
  refine AllReadyH.cons rfl (fun K hK => ?_) AllReadyH.nil
  simp only [List.getElem_toArray, List.getElem_cons_zero, List.getElem_cons_succ]
  go_simp
  go_at_call 23
  obtain ⟨h_0, h_1, h_2, h_3, h_B⟩ := hHeld
  refine (or_any C1 C2 _ _ z3.1 z3.2).mono ?_
  rintro e w_k4 ⟨rfl, k4⟩
  have HB4 := Lib.hid (below_step h_B k4)
  go_wp2_with fail
  refine hK.out _ _ ⟨cell_step k4 h_0, cell_step k4 h_1, cell_step k4 h_2, cell_step k4 h_3, below_step h_B k4⟩ (fun hHeld => ?_)
  clear hK K h_0 h_1 h_2 h_3 h_B
  try simp only [Act.put, List.setIfInBounds_toArray, List.set_cons_zero, List.set_cons_succ, List.getElem_toArray, List.getElem_cons_zero, List.getElem_cons_succ]
  rw [← HN.out]
  refine wpAnyH_take (i := 22) (v := ?v93) rfl (by kernel_rfl) (by kernel_rfl) (by kernel_rfl) (fun _ _ _ h => h) (Or.inl ⟨by rfl, ?hy93⟩) (by assumption) ?rest93
  case hy93 => (intro w hSw; (try dsimp only at hSw); go_simp; (first | done | with_reducible rfl))
  simp only [Act.put, List.setIfInBounds_toArray, List.set_cons_zero, List.set_cons_succ, List.getElem_toArray, List.getElem_cons_zero, List.getElem_cons_succ]
  refine wpAnyH_take (i := 23) (v := ?v94) rfl (by kernel_rfl) (by kernel_rfl) (by kernel_rfl) (fun _ _ _ h => h) (Or.inl ⟨by rfl, ?hy94⟩) (by assumption) ?rest94
  case hy94 => (intro w hSw; (try dsimp only at hSw); go_simp; (first | done | with_reducible rfl))
  simp only [Act.put, List.setIfInBounds_toArray, List.set_cons_zero, List.set_cons_succ, List.getElem_toArray, List.getElem_cons_zero, List.getElem_cons_succ]
  refine wpAnyH_take (i := 24) (v := ?v95) rfl (by kernel_rfl) (by kernel_rfl) (by kernel_rfl) (fun _ _ _ h => h) (Or.inl ⟨by rfl, ?hy95⟩) (by assumption) ?rest95
  case hy95 => (intro w hSw; (try dsimp only at hSw); go_simp; (first | done | with_reducible rfl))
  simp only [Act.put, List.setIfInBounds_toArray, List.set_cons_zero, List.set_cons_succ, List.getElem_toArray, List.getElem_cons_zero, List.getElem_cons_succ]
  refine wpAnyH_take (i := 25) (v := ?v96) rfl (by kernel_rfl) (by kernel_rfl) (by kernel_rfl) (fun _ _ _ h => h) (Or.inl ⟨by rfl, ?hy96⟩) (by assumption) ?rest96
  case hy96 => (intro w hSw; (try dsimp only at hSw); go_simp; (first | done | with_reducible rfl))
  simp only [Act.put, List.setIfInBounds_toArray, List.set_cons_zero, List.set_cons_succ, List.getElem_toArray, List.getElem_cons_zero, List.getElem_cons_succ]
  refine wpAnyH_done (by kernel_rfl) ?_ _
  go_wp2_with fail
  go_ret
  exact ⟨rfl, below_step B6.out HB4.out⟩
theorem walk_orders (a b c d e_ p q r s t ph : Int) (w : World) (_hL : laidMetH Tryd.prog Rows.tagOrdersRow.laid w) :
    Calls Tryd.prog 7 #[.agg #[.int .i64 a, .int .i64 b, .int .i64 c, .int .i64 d, .int .i64 e_], .agg #[.int .i64 p, .int .i64 q, .int .i64 r, .int .i64 s, .int .i64 t], .int .i64 ph] w fun e w' => e = .returned (.bool true) ∧ Below w.heap.size w w' := by
  cases h1 : rightB a b c d e_
  · cases h2 : rightB p q r s t
    · exact walk_orders_00 a b c d e_ p q r s t ph w h1 h2
    · exact walk_orders_01 a b c d e_ p q r s t ph w h1 h2
  · cases h2 : rightB p q r s t
    · exact walk_orders_10 a b c d e_ p q r s t ph w h1 h2
    · exact walk_orders_11 a b c d e_ p q r s t ph w h1 h2
end Go.Proofs.YtffgcloacdpfaaaDoor
