/- Layer 7: the walk of MatTurns. -/
import Derived.Test.YtinflmjombcolaaMatS
import Derived.Test.YtinflmjombcolaaMatU
import Derived.Deep.Cut
namespace Go.Proofs.Ytinflmjombcolaa
open Go.RowKit
set_option linter.unusedVariables false
def turnR (r c : Int) (n : Nat) : Int := if rightB r c n then c else 0
def turnC (r c : Int) (n : Nat) : Int := if rightB r c n then r else 0
def turnZ (r c : Int) (zs : List Int) : List Int := if rightB r c zs.length then turnL r.toNat c.toNat zs else []
theorem turn_own_any (r c : Int) (v : Value) (zs : List Int) (hm : zs.length ≤ 1048576) (w : World) (hv : IntsW .i64 w.heap.size w v zs) :
    Calls Try.prog 25 #[.agg #[.int .i64 r, .int .i64 c, v]] w (MadeO (turnR r c zs.length) (turnC r c zs.length) (turnZ r c zs) w) := by
  unfold turnR turnC turnZ
  cases h : rightB r c zs.length
  · obtain ⟨a, cap, rfl⟩ := hv.value
    exact turn_no r c a zs.length cap h w
  · obtain ⟨R, C, rfl, rfl⟩ := nats_of h
    exact turn_yes R C v zs h hm w hv
theorem turn_out_any (r c : Int) (v : Value) (zs : List Int) (hm : zs.length ≤ 1048576) (w : World) (hv : IntsW .i64 w.heap.size w v zs) :
    Calls Try.prog 25 #[.agg #[.int .i64 r, .int .i64 c, v]] w (Made (turnR r c zs.length) (turnC r c zs.length) (turnZ r c zs) w) :=
  (turn_own_any r c v zs hm w hv).mono fun _ _ h => made_own h
theorem refTurn_any (r c : Int) (v : Value) (zs : List Int) (hm : zs.length ≤ 1048576) (w : World) (hv : IntsW .i64 w.heap.size w v zs) :
    Calls Try.prog 26 #[.agg #[.int .i64 r, .int .i64 c, v]] w (Made (turnR r c zs.length) (turnC r c zs.length) (turnZ r c zs) w) := by
  unfold turnR turnC turnZ
  cases h : rightB r c zs.length
  · obtain ⟨a, cap, rfl⟩ := hv.value
    exact refTurn_no r c a zs.length cap h w
  · obtain ⟨R, C, rfl, rfl⟩ := nats_of h
    exact refTurn_yes R C v zs h hm w hv
theorem turnZ_length (r c : Int) (zs : List Int) (hm : zs.length ≤ 1048576) : (turnZ r c zs).length ≤ 1048576 := by
  unfold turnZ
  cases h : rightB r c zs.length
  · simp
  · obtain ⟨R, C, rfl, rfl⟩ := nats_of h
    obtain ⟨_, _, _, _, hl⟩ := right_len h
    rw [if_pos rfl, turnL_length, Int.toNat_natCast, Int.toNat_natCast, Nat.mul_comm, ← hl]
    exact hm
theorem turnZ_word (r c : Int) (zs : List Int) (hz : ∀ z ∈ zs, Word z) : ∀ z ∈ turnZ r c zs, Word z := by
  unfold turnZ
  cases h : rightB r c zs.length
  · intro z hz'; cases hz'
  · exact turnL_word _ _ zs hz
theorem right_turn {R C : Nat} {zs : List Int} (h : rightB R C zs.length = true) : rightB C R (turnL R C zs).length = true := by
  obtain ⟨r1, r2, c1, c2, _⟩ := right_len h
  unfold rightB sideB
  rw [turnL_length]
  simp only [Bool.and_eq_true, decide_eq_true_eq]
  refine ⟨⟨?_, ?_⟩, ⟨?_, ?_⟩, ?_⟩
  all_goals first | omega | simp
theorem mul_turn (r c : Int) (zs : List Int) (k : Nat) : mulB (turnR r c zs.length) (turnC r c zs.length) (turnZ r c zs).length k = backB r c zs.length k := by
  unfold turnR turnC turnZ backB mulB
  cases h : rightB r c zs.length
  · rfl
  · obtain ⟨R, C, rfl, rfl⟩ := nats_of h
    rw [if_pos rfl, if_pos rfl, if_pos rfl, Int.toNat_natCast, Int.toNat_natCast, right_turn h]
theorem mulZ_turn (r c : Int) (zs xs : List Int) (q : Int) : mulZ (turnR r c zs.length) (turnC r c zs.length) (turnZ r c zs) xs q = backZ r c zs xs q := by
  unfold mulZ backZ
  rw [mul_turn]
  cases hb : backB r c zs.length xs.length
  · rfl
  · have h := (back_right hb).1
    rw [if_pos rfl, if_pos rfl]
    obtain ⟨R, C, rfl, rfl⟩ := nats_of h
    unfold turnR turnC turnZ backL
    rw [h]
    rfl
theorem turn_back {r c : Int} {zs : List Int} (h : rightB r c zs.length = true) : turnR (turnR r c zs.length) (turnC r c zs.length) (turnZ r c zs).length = r ∧ turnC (turnR r c zs.length) (turnC r c zs.length) (turnZ r c zs).length = c ∧ turnZ (turnR r c zs.length) (turnC r c zs.length) (turnZ r c zs) = zs := by
  obtain ⟨R, C, rfl, rfl⟩ := nats_of h
  obtain ⟨_, _, _, _, hl⟩ := right_len h
  unfold turnR turnC turnZ
  rw [h]
  simp only [if_true, Int.toNat_natCast]
  rw [right_turn h]
  simp only [if_true]
  exact ⟨trivial, trivial, turn_turn R C zs hl⟩
set_option maxHeartbeats 2000000 in
theorem walk_turns_big (r c : Int) (v u : Value) (zs xs : List Int) (q : Int) (w : World) (hv : IntsW .i64 w.heap.size w v zs) (hu : IntsAt .i64 w.heap.size w u xs) (hmx : xs.length ≤ maxLen) (h6 : 600 < zs.length ∨ zs.length ≤ 600 ∧ 600 < xs.length) :
    Calls Try.prog 5 #[.agg #[.int .i64 r, .int .i64 c, v], u, .int .i64 q] w fun e w' => e = .returned (.bool true) ∧ Below w.heap.size w w' := by
  obtain ⟨a, cap, rfl⟩ := hv.value
  obtain ⟨a', cap', rfl⟩ := ints_value hu
  have b0 := (Below.refl w.heap.size w).alloc (Nat.le_refl _) (.cells #[.int .i64 r, .int .i64 c, .slice a zs.length cap] 24)
  have m := Is3.new w (.int .i64 r) (.int .i64 c) (.slice a zs.length cap) 24
  obtain ⟨m0, m1, m2⟩ := m
  have HF := Lib.hid (fun W => few_any r c a zs.length cap W)
  unfold maxLen at hmx
  clear hv hu
  rcases h6 with h6 | ⟨h6, h7⟩
  · have g : decide (zs.length ≤ 600) = false := by simp; omega
    rw [g] at HF
    clear g
    go_enter Try.func5, Try.ntmps5
    go_wp2_with fail
    refine (HF.out _).mono ?_
    rintro e w1 ⟨rfl, b1⟩
    go_wp2_with fail
    refine (alive7_any _).mono ?_
    rintro e w2 ⟨rfl, b2⟩
    go_wp2_with fail
    go_ret
    exact ⟨rfl, below_step (below_step b0 b1) b2⟩
  · have g : decide (zs.length ≤ 600) = true := by simpa using h6
    rw [g] at HF
    clear g
    go_enter Try.func5, Try.ntmps5
    go_wp2_with fail
    refine (HF.out _).mono ?_
    rintro e w1 ⟨rfl, b1⟩
    go_wp2_with fail
    refine (alive7_any _).mono ?_
    rintro e w2 ⟨rfl, b2⟩
    go_wp2_with fail
    go_ret
    exact ⟨rfl, below_step (below_step b0 b1) b2⟩
set_option maxHeartbeats 8000000 in
theorem walk_turns_yes (r c : Int) (v u : Value) (zs xs : List Int) (q : Int) (hz : ∀ z ∈ zs, Word z) (hx : ∀ z ∈ xs, Word z) (w : World) (hv : IntsW .i64 w.heap.size w v zs) (hu : IntsAt .i64 w.heap.size w u xs) (h6 : zs.length ≤ 600) (h7 : xs.length ≤ 600) (hr : rightB r c zs.length = true) :
    Calls Try.prog 5 #[.agg #[.int .i64 r, .int .i64 c, v], u, .int .i64 q] w fun e w' => e = .returned (.bool true) ∧ Below w.heap.size w w' := by
  obtain ⟨a, cap, rfl⟩ := hv.value
  obtain ⟨a', cap', rfl⟩ := ints_value hu
  have b0 := (Below.refl w.heap.size w).alloc (Nat.le_refl _) (.cells #[.int .i64 r, .int .i64 c, .slice a zs.length cap] 24)
  have m := Is3.new w (.int .i64 r) (.int .i64 c) (.slice a zs.length cap) 24
  have HF := Lib.hid (fun W => few_any r c a zs.length cap W)
  have g : decide (zs.length ≤ 600) = true := by simpa using h6
  rw [g] at HF
  have hm : zs.length ≤ 1048576 := by omega
  have HT := Lib.hid (fun W hv => turn_out_any r c (.slice a zs.length cap) zs hm W hv)
  have HRT := Lib.hid (fun W hv => refTurn_any r c (.slice a zs.length cap) zs hm W hv)
  have HB := Lib.hid (fun W hv hu => back_out r c (.slice a zs.length cap) (.slice a' xs.length cap') zs xs q hz hx hm W hv hu)
  have HMT := Lib.hid (fun v W hv hu => mul_out (turnR r c zs.length) (turnC r c zs.length) v (.slice a' xs.length cap') (turnZ r c zs) xs q (turnZ_word r c zs hz) hx (turnZ_length r c zs hm) W hv hu)
  have HTT := Lib.hid (fun v W hv => turn_out_any (turnR r c zs.length) (turnC r c zs.length) v (turnZ r c zs) (turnZ_length r c zs hm) W hv)
  have HRR := Lib.hid (fun W => refRight_any r c a zs.length cap W)
  rw [mulZ_turn, mul_turn] at HMT
  rw [hr] at HRR
  obtain ⟨e1, e2, e3⟩ := turn_back hr
  rw [e1, e2, e3] at HTT
  clear e1 e2 e3
  have L1 := Lib.hid (backZ_length r c zs xs q)
  have L2 := Lib.hid (turnZ_length r c zs hm)
  have V0 := Lib.hid (hv.later b0)
  have U0 := Lib.hid (hu.later b0)
  have B0 := Lib.hid b0
  have M0 := Lib.hid m
  generalize turnR r c zs.length = tr at *
  generalize turnC r c zs.length = tc at *
  generalize turnZ r c zs = tz at *
  generalize backZ r c zs xs q = bz at *
  generalize backB r c zs.length xs.length = bb at *
  clear hv hu g hz hx b0 m hr
  go_enter Try.func5, Try.ntmps5
  go_upto_region 1 with fail
  generalize w.alloc (.cells #[.int .i64 r, .int .i64 c, .slice a zs.length cap] 24) = W0 at *
  obtain ⟨m0, m1, m2⟩ := M0.out
  go_wp2_with fail
  refine (HF.out _).mono ?_
  rintro e w1 ⟨rfl, b1⟩
  have B1 := Lib.hid (below_step B0.out b1)
  have M1 := Lib.hid (M0.out.later b1)
  have V1 := Lib.hid (V0.out.later b1)
  have U1 := Lib.hid (U0.out.later b1)
  clear b1 m0 m1 m2
  obtain ⟨m0, m1, m2⟩ := M1.out
  go_wp2_with fail
  refine (given_any r c (.slice a zs.length cap) ⟨_, _, _, rfl⟩ _).mono ?_
  rintro e w2 ⟨rfl, b2⟩
  have B2 := Lib.hid (below_step B1.out b2)
  have M2 := Lib.hid (M1.out.later b2)
  have V2 := Lib.hid (V1.out.later b2)
  have U2 := Lib.hid (U1.out.later b2)
  clear b2 m0 m1 m2
  obtain ⟨m0, m1, m2⟩ := M2.out
  go_wp2_with fail
  refine (HT.out _ V2.out).mono ?_
  rintro e w3 ⟨t, rfl, ht, b3⟩
  obtain ⟨at_, ct, rfl⟩ := ht.value
  have T4 := Lib.hid (Is3.new w3 (.int .i64 tr) (.int .i64 tc) (.slice at_ tz.length ct) 29)
  have b4 := (Below.refl w3.heap.size w3).alloc (Nat.le_refl _) (.cells #[.int .i64 tr, .int .i64 tc, .slice at_ tz.length ct] 29)
  have B4 := Lib.hid (below_step (below_step B2.out b3) b4)
  have M4 := Lib.hid ((M2.out.later b3).later b4)
  have V4 := Lib.hid ((V2.out.later b3).later b4)
  have U4 := Lib.hid ((U2.out.later b3).later b4)
  have Z4 := Lib.hid (ht.later b4)
  clear b3 b4 m0 m1 m2 ht
  go_upto_region 4 with fail
  generalize w3.alloc (.cells #[.int .i64 tr, .int .i64 tc, .slice at_ tz.length ct] 29) = W4 at *
  generalize w3.heap.size = T at *
  obtain ⟨m0, m1, m2⟩ := M4.out
  go_wp2_with fail
  refine (given_any r c (.slice a zs.length cap) ⟨_, _, _, rfl⟩ _).mono ?_
  rintro e w5 ⟨rfl, b5⟩
  have B5 := Lib.hid (below_step B4.out b5)
  have M5 := Lib.hid (M4.out.later b5)
  have T5 := Lib.hid (T4.out.later b5)
  have V5 := Lib.hid (V4.out.later b5)
  have U5 := Lib.hid (U4.out.later b5)
  have Z5 := Lib.hid (Z4.out.later b5)
  clear b5 m0 m1 m2
  obtain ⟨m0, m1, m2⟩ := M5.out
  go_wp2_with fail
  refine (HB.out _ V5.out U5.out).mono ?_
  rintro e w6 ⟨p, rfl, hp, b6⟩
  obtain ⟨ap, cp, rfl⟩ := ints_value hp
  have B6 := Lib.hid (below_step B5.out b6)
  have M6 := Lib.hid (M5.out.later b6)
  have T6 := Lib.hid (T5.out.later b6)
  have V6 := Lib.hid (V5.out.later b6)
  have U6 := Lib.hid (U5.out.later b6)
  have Z6 := Lib.hid (Z5.out.later b6)
  have P6 := Lib.hid hp
  clear b6 m0 m1 m2 hp
  obtain ⟨t0, t1, t2⟩ := T6.out
  go_wp2_with fail
  refine (HMT.out _ _ Z6.out U6.out).mono ?_
  rintro e w7 ⟨p2, rfl, hp, b7⟩
  obtain ⟨ap2, cp2, rfl⟩ := ints_value hp
  have B7 := Lib.hid (below_step B6.out b7)
  have M7 := Lib.hid (M6.out.later b7)
  have T7 := Lib.hid (T6.out.later b7)
  have V7 := Lib.hid (V6.out.later b7)
  have Z7 := Lib.hid (Z6.out.later b7)
  have P7 := Lib.hid (P6.out.later b7)
  have Q7 := Lib.hid hp
  clear b7 t0 t1 t2 hp
  have gbb : (bb != bb) = false := by cases bb <;> rfl
  go_wp2_with fail
  refine wp_region_held_drew (S := fun w' => w'.cell? ⟨w.heap.size, 0, none⟩ = some (.int .i64 r) ∧ w'.cell? ⟨w.heap.size, 1, none⟩ = some (.int .i64 c) ∧ w'.cell? ⟨w.heap.size, 2, none⟩ = some (.slice a zs.length cap) ∧ w'.cell? ⟨T, 0, none⟩ = some (.int .i64 tr) ∧ w'.cell? ⟨T, 1, none⟩ = some (.int .i64 tc) ∧ w'.cell? ⟨T, 2, none⟩ = some (.slice at_ tz.length ct) ∧ Below w7.heap.size w7 w') (by kernel_rfl) ?_ (fun hHeld => ?_)
  · exact ⟨M7.out.c0, M7.out.c1, M7.out.c2, T7.out.c0, T7.out.c1, T7.out.c2, (Below.refl _ _).drew⟩
  refine wpAnyH_take (i := 0) (v := ?v1) rfl (by kernel_rfl) (by kernel_rfl) (by kernel_rfl) (fun _ _ _ h => h) (Or.inl ⟨by rfl, ?hy1⟩) (by assumption) ?rest1
  case hy1 => (intro w hSw; (try dsimp only at hSw); go_simp; (first | done | with_reducible rfl))
  simp only [Act.put, List.setIfInBounds_toArray, List.set_cons_zero, List.set_cons_succ, List.getElem_toArray, List.getElem_cons_zero]
  refine wpAnyH_take (i := 2) (v := ?v2) rfl (by kernel_rfl) (by kernel_rfl) (by kernel_rfl) (fun _ _ _ h => h) (Or.inl ⟨by rfl, ?hy2⟩) (by assumption) ?rest2
  case hy2 => (intro w hSw; (try dsimp only at hSw); go_simp; (first | done | with_reducible rfl))
  simp only [Act.put, List.setIfInBounds_toArray, List.set_cons_zero, List.set_cons_succ, List.getElem_toArray, List.getElem_cons_zero, List.getElem_cons_succ]
  refine wpAnyH_ready (rs := [1]) (by kernel_rfl) (by simp) ?_
  refine AllReadyH.cons rfl (fun K hK => ?_) AllReadyH.nil
  simp only [List.getElem_toArray, List.getElem_cons_zero, List.getElem_cons_succ]
  go_simp
  go_at_call 15
  obtain ⟨h_0, h_1, h_2, h_3, h_4, h_5, h_B⟩ := hHeld
  refine (back_any tr tc (.slice at_ tz.length ct) ⟨_, _, _, rfl⟩ _).mono ?_
  rintro e w_k1 ⟨rfl, k1⟩
  have hb1 := Lib.hid (below_step h_B k1)
  go_wp2_with fail
  refine hK.out _ _ ⟨cell_step k1 h_0, cell_step k1 h_1, cell_step k1 h_2, cell_step k1 h_3, cell_step k1 h_4, cell_step k1 h_5, below_step h_B k1⟩ (fun hHeld => ?_)
  clear hK K h_0 h_1 h_2 h_3 h_4 h_5 h_B
  try simp only [Act.put, List.setIfInBounds_toArray, List.set_cons_zero, List.set_cons_succ, List.getElem_toArray, List.getElem_cons_zero, List.getElem_cons_succ]
  refine wpAnyH_ready (rs := [3]) (by kernel_rfl) (by simp) ?_
  refine AllReadyH.cons rfl (fun K hK => ?_) AllReadyH.nil
  simp only [List.getElem_toArray, List.getElem_cons_zero, List.getElem_cons_succ]
  go_simp
  go_at_call 26
  obtain ⟨h_0, h_1, h_2, h_3, h_4, h_5, h_B⟩ := hHeld
  refine (HRT.out _ (V7.out.later h_B)).mono ?_
  rintro e w_k2 ⟨t2, rfl, ht2, k2⟩
  obtain ⟨at2, ct2, rfl⟩ := ht2.value
  have Z8 := Lib.hid ht2
  have Y8 := Lib.hid (Z7.out.later (below_step h_B k2))
  clear ht2
  go_wp2_with fail
  refine hK.out _ _ ⟨cell_step k2 h_0, cell_step k2 h_1, cell_step k2 h_2, cell_step k2 h_3, cell_step k2 h_4, cell_step k2 h_5, below_step h_B k2⟩ (fun hHeld => ?_)
  clear hK K h_0 h_1 h_2 h_3 h_4 h_5 h_B
  try simp only [Act.put, List.setIfInBounds_toArray, List.set_cons_zero, List.set_cons_succ, List.getElem_toArray, List.getElem_cons_zero, List.getElem_cons_succ]
  refine wpAnyH_ready (rs := [4]) (by kernel_rfl) (by simp) ?_
  refine AllReadyH.cons rfl (fun K hK => ?_) AllReadyH.nil
  simp only [List.getElem_toArray, List.getElem_cons_zero, List.getElem_cons_succ]
  go_simp
  go_at_call 14
  obtain ⟨h_0, h_1, h_2, h_3, h_4, h_5, h_B⟩ := hHeld
  refine (same_same tr tc _ _ tz L2.out _ Y8.out Z8.out).mono ?_
  rintro e w_k3 ⟨rfl, k3⟩
  have hb3 := Lib.hid (below_step h_B k3)
  go_wp2_with fail
  refine hK.out _ _ ⟨cell_step k3 h_0, cell_step k3 h_1, cell_step k3 h_2, cell_step k3 h_3, cell_step k3 h_4, cell_step k3 h_5, below_step h_B k3⟩ (fun hHeld => ?_)
  clear hK K h_0 h_1 h_2 h_3 h_4 h_5 h_B
  try simp only [Act.put, List.setIfInBounds_toArray, List.set_cons_zero, List.set_cons_succ, List.getElem_toArray, List.getElem_cons_zero, List.getElem_cons_succ]
  refine wpAnyH_take (i := 5) (v := ?v3) rfl (by kernel_rfl) (by kernel_rfl) (by kernel_rfl) (fun _ _ _ h => h) (Or.inl ⟨by rfl, ?hy3⟩) (by assumption) ?rest3
  case hy3 => (intro w hSw; (try dsimp only at hSw); go_simp; (first | done | with_reducible rfl))
  simp only [Act.put, List.setIfInBounds_toArray, List.set_cons_zero, List.set_cons_succ, List.getElem_toArray, List.getElem_cons_zero, List.getElem_cons_succ]
  refine wpAnyH_take (i := 6) (v := ?v4) rfl (by kernel_rfl) (by kernel_rfl) (by kernel_rfl) (fun _ _ _ h => h) (Or.inl ⟨by rfl, ?hy4⟩) (by assumption) ?rest4
  case hy4 => (intro w hSw; (try dsimp only at hSw); go_simp; (first | done | with_reducible rfl))
  simp only [Act.put, List.setIfInBounds_toArray, List.set_cons_zero, List.set_cons_succ, List.getElem_toArray, List.getElem_cons_zero, List.getElem_cons_succ]
  refine wpAnyH_take (i := 7) (v := ?v5) rfl (by kernel_rfl) (by kernel_rfl) (by kernel_rfl) (fun _ _ _ h => h) (Or.inl ⟨by rfl, ?hy5⟩) (by assumption) ?rest5
  case hy5 => (intro w hSw; (try dsimp only at hSw); go_simp; (first | done | with_reducible rfl))
  simp only [Act.put, List.setIfInBounds_toArray, List.set_cons_zero, List.set_cons_succ, List.getElem_toArray, List.getElem_cons_zero, List.getElem_cons_succ]
  refine wpAnyH_take (i := 8) (v := ?v6) rfl (by kernel_rfl) (by kernel_rfl) (by kernel_rfl) (fun _ _ _ h => h) (Or.inl ⟨by rfl, ?hy6⟩) (by assumption) ?rest6
  case hy6 => (intro w hSw; (try dsimp only at hSw); go_simp; (first | done | with_reducible rfl))
  simp only [Act.put, List.setIfInBounds_toArray, List.set_cons_zero, List.set_cons_succ, List.getElem_toArray, List.getElem_cons_zero, List.getElem_cons_succ]
  refine wpAnyH_take (i := 9) (v := ?v7) rfl (by kernel_rfl) (by kernel_rfl) (by kernel_rfl) (fun _ _ _ h => h) (Or.inl ⟨by rfl, ?hy7⟩) (by assumption) ?rest7
  case hy7 => (intro w hSw; (try dsimp only at hSw); go_simp; (first | done | with_reducible rfl))
  simp only [Act.put, List.setIfInBounds_toArray, List.set_cons_zero, List.set_cons_succ, List.getElem_toArray, List.getElem_cons_zero, List.getElem_cons_succ]
  refine wpAnyH_take (i := 10) (v := ?v8) rfl (by kernel_rfl) (by kernel_rfl) (by kernel_rfl) (fun _ _ _ h => h) (Or.inl ⟨by rfl, ?hy8⟩) (by assumption) ?rest8
  case hy8 => (intro w hSw; (try dsimp only at hSw); go_simp; (first | done | with_reducible rfl))
  simp only [Act.put, List.setIfInBounds_toArray, List.set_cons_zero, List.set_cons_succ, List.getElem_toArray, List.getElem_cons_zero, List.getElem_cons_succ]
  refine wpAnyH_take (i := 11) (v := ?v9) rfl (by kernel_rfl) (by kernel_rfl) (by kernel_rfl) (fun _ _ _ h => h) (Or.inl ⟨by rfl, ?hy9⟩) (by assumption) ?rest9
  case hy9 => (intro w hSw; (try dsimp only at hSw); go_simp; (first | done | with_reducible rfl))
  simp only [Act.put, List.setIfInBounds_toArray, List.set_cons_zero, List.set_cons_succ, List.getElem_toArray, List.getElem_cons_zero, List.getElem_cons_succ]
  refine wpAnyH_take (i := 12) (v := ?v10) rfl (by kernel_rfl) (by kernel_rfl) (by kernel_rfl) (fun _ _ _ h => h) (Or.inl ⟨by rfl, ?hy10⟩) (by assumption) ?rest10
  case hy10 => (intro w hSw; (try dsimp only at hSw); go_simp; (first | done | with_reducible rfl))
  simp only [Act.put, List.setIfInBounds_toArray, List.set_cons_zero, List.set_cons_succ, List.getElem_toArray, List.getElem_cons_zero, List.getElem_cons_succ]
  refine wpAnyH_take (i := 13) (v := ?v11) rfl (by kernel_rfl) (by kernel_rfl) (by kernel_rfl) (fun _ _ _ h => h) (Or.inl ⟨by rfl, ?hy11⟩) (by assumption) ?rest11
  case hy11 => (intro w hSw; (try dsimp only at hSw); go_simp; (first | done | with_reducible rfl))
  simp only [Act.put, List.setIfInBounds_toArray, List.set_cons_zero, List.set_cons_succ, List.getElem_toArray, List.getElem_cons_zero, List.getElem_cons_succ]
  refine wpAnyH_ready (rs := [14]) (by kernel_rfl) (by simp) ?_
  refine AllReadyH.cons rfl (fun K hK => ?_) AllReadyH.nil
  simp only [List.getElem_toArray, List.getElem_cons_zero, List.getElem_cons_succ]
  go_simp
  go_at_call 24
  obtain ⟨h_0, h_1, h_2, h_3, h_4, h_5, h_B⟩ := hHeld
  refine (refSame_any _ _ bz bz (by have := L1.out; omega) (by have := L1.out; omega) _ (P7.out.later h_B) (Q7.out.later h_B)).mono ?_
  rintro e w_k4 ⟨rfl, k4⟩
  rw [sameL_self]
  have hb4 := Lib.hid (below_step h_B k4)
  go_wp2_with fail
  refine hK.out _ _ ⟨cell_step k4 h_0, cell_step k4 h_1, cell_step k4 h_2, cell_step k4 h_3, cell_step k4 h_4, cell_step k4 h_5, below_step h_B k4⟩ (fun hHeld => ?_)
  clear hK K h_0 h_1 h_2 h_3 h_4 h_5 h_B
  try simp only [Act.put, List.setIfInBounds_toArray, List.set_cons_zero, List.set_cons_succ, List.getElem_toArray, List.getElem_cons_zero, List.getElem_cons_succ]
  refine wpAnyH_take (i := 15) (v := ?v12) rfl (by kernel_rfl) (by kernel_rfl) (by kernel_rfl) (fun _ _ _ h => h) (Or.inl ⟨by rfl, ?hy12⟩) (by assumption) ?rest12
  case hy12 => (intro w hSw; (try dsimp only at hSw); go_simp; (first | done | with_reducible rfl))
  simp only [Act.put, List.setIfInBounds_toArray, List.set_cons_zero, List.set_cons_succ, List.getElem_toArray, List.getElem_cons_zero, List.getElem_cons_succ]
  refine wpAnyH_take (i := 16) (v := ?v13) rfl (by kernel_rfl) (by kernel_rfl) (by kernel_rfl) (fun _ _ _ h => h) (Or.inl ⟨by rfl, ?hy13⟩) (by assumption) ?rest13
  case hy13 => (intro w hSw; (try dsimp only at hSw); go_simp; (first | done | with_reducible rfl))
  simp only [Act.put, List.setIfInBounds_toArray, List.set_cons_zero, List.set_cons_succ, List.getElem_toArray, List.getElem_cons_zero, List.getElem_cons_succ]
  refine wpAnyH_done (by kernel_rfl) ?_ _
  obtain ⟨n0, n1, n2, n3, n4, n5, h_B⟩ := hHeld
  have B8 := Lib.hid (below_step B7.out h_B)
  have V8 := Lib.hid (V7.out.later h_B)
  have Z9 := Lib.hid (Z7.out.later h_B)
  clear h_B hb1 hb3 hb4 Z8 Y8 P7 Q7
  go_wp2_with fail
  refine wp_region_held_drew (S := fun w' => w'.cell? ⟨w.heap.size, 0, none⟩ = some (.int .i64 r) ∧ w'.cell? ⟨w.heap.size, 1, none⟩ = some (.int .i64 c) ∧ w'.cell? ⟨w.heap.size, 2, none⟩ = some (.slice a zs.length cap) ∧ w'.cell? ⟨T, 0, none⟩ = some (.int .i64 tr) ∧ w'.cell? ⟨T, 1, none⟩ = some (.int .i64 tc) ∧ w'.cell? ⟨T, 2, none⟩ = some (.slice at_ tz.length ct) ∧ Below w_k4.heap.size w_k4 w') (by kernel_rfl) ?_ (fun hHeld => ?_)
  · exact ⟨n0, n1, n2, n3, n4, n5, (Below.refl _ _).drew⟩
  refine wpAnyH_ready (rs := [0]) (by kernel_rfl) (by simp) ?_
  refine AllReadyH.cons rfl (fun K hK => ?_) AllReadyH.nil
  simp only [List.getElem_toArray, List.getElem_cons_zero]
  go_simp
  go_at_call 9
  obtain ⟨h_0, h_1, h_2, h_3, h_4, h_5, h_B⟩ := hHeld
  refine (alive7_any _).mono ?_
  rintro e w_k5 ⟨rfl, k5⟩
  have hb5 := Lib.hid (below_step h_B k5)
  go_wp2_with fail
  refine hK.out _ _ ⟨cell_step k5 h_0, cell_step k5 h_1, cell_step k5 h_2, cell_step k5 h_3, cell_step k5 h_4, cell_step k5 h_5, below_step h_B k5⟩ (fun hHeld => ?_)
  clear hK K h_0 h_1 h_2 h_3 h_4 h_5 h_B
  try simp only [Act.put, List.setIfInBounds_toArray, List.set_cons_zero, List.set_cons_succ, List.getElem_toArray, List.getElem_cons_zero, List.getElem_cons_succ]
  refine wpAnyH_take (i := 1) (v := ?v14) rfl (by kernel_rfl) (by kernel_rfl) (by kernel_rfl) (fun _ _ _ h => h) (Or.inl ⟨by rfl, ?hy14⟩) (by assumption) ?rest14
  case hy14 => (intro w hSw; (try dsimp only at hSw); go_simp; (first | done | with_reducible rfl))
  simp only [Act.put, List.setIfInBounds_toArray, List.set_cons_zero, List.set_cons_succ, List.getElem_toArray, List.getElem_cons_zero, List.getElem_cons_succ]
  refine wpAnyH_take (i := 2) (v := ?v15) rfl (by kernel_rfl) (by kernel_rfl) (by kernel_rfl) (fun _ _ _ h => h) (Or.inl ⟨by rfl, ?hy15⟩) (by assumption) ?rest15
  case hy15 => (intro w hSw; (try dsimp only at hSw); go_simp; (first | done | with_reducible rfl))
  simp only [Act.put, List.setIfInBounds_toArray, List.set_cons_zero, List.set_cons_succ, List.getElem_toArray, List.getElem_cons_zero, List.getElem_cons_succ]
  refine wpAnyH_ready (rs := [3]) (by kernel_rfl) (by simp) ?_
  refine AllReadyH.cons rfl (fun K hK => ?_) AllReadyH.nil
  simp only [List.getElem_toArray, List.getElem_cons_zero, List.getElem_cons_succ]
  go_simp
  go_at_call 12
  obtain ⟨h_0, h_1, h_2, h_3, h_4, h_5, h_B⟩ := hHeld
  refine (HRR.out _).mono ?_
  rintro e w_k6 ⟨rfl, k6⟩
  have hb6 := Lib.hid (below_step h_B k6)
  go_wp2_with fail
  refine hK.out _ _ ⟨cell_step k6 h_0, cell_step k6 h_1, cell_step k6 h_2, cell_step k6 h_3, cell_step k6 h_4, cell_step k6 h_5, below_step h_B k6⟩ (fun hHeld => ?_)
  clear hK K h_0 h_1 h_2 h_3 h_4 h_5 h_B
  try simp only [Act.put, List.setIfInBounds_toArray, List.set_cons_zero, List.set_cons_succ, List.getElem_toArray, List.getElem_cons_zero, List.getElem_cons_succ]
  refine wpAnyH_take (i := 4) (v := ?v16) rfl (by kernel_rfl) (by kernel_rfl) (by kernel_rfl) (fun _ _ _ h => h) (Or.inl ⟨by rfl, ?hy16⟩) (by assumption) ?rest16
  case hy16 => (intro w hSw; (try dsimp only at hSw); go_simp; (first | done | with_reducible rfl))
  simp only [Act.put, List.setIfInBounds_toArray, List.set_cons_zero, List.set_cons_succ, List.getElem_toArray, List.getElem_cons_zero, List.getElem_cons_succ]
  refine wpAnyH_take (i := 5) (v := ?v17) rfl (by kernel_rfl) (by kernel_rfl) (by kernel_rfl) (fun _ _ _ h => h) (Or.inl ⟨by rfl, ?hy17⟩) (by assumption) ?rest17
  case hy17 => (intro w hSw; (try dsimp only at hSw); go_simp; (first | done | with_reducible rfl))
  simp only [Act.put, List.setIfInBounds_toArray, List.set_cons_zero, List.set_cons_succ, List.getElem_toArray, List.getElem_cons_zero, List.getElem_cons_succ]
  refine wpAnyH_take (i := 6) (v := ?v18) rfl (by kernel_rfl) (by kernel_rfl) (by kernel_rfl) (fun _ _ _ h => h) (Or.inl ⟨by rfl, ?hy18⟩) (by assumption) ?rest18
  case hy18 => (intro w hSw; (try dsimp only at hSw); go_simp; (first | done | with_reducible rfl))
  simp only [Act.put, List.setIfInBounds_toArray, List.set_cons_zero, List.set_cons_succ, List.getElem_toArray, List.getElem_cons_zero, List.getElem_cons_succ]
  refine wpAnyH_take (i := 9) (v := ?v19) rfl (by kernel_rfl) (by kernel_rfl) (by kernel_rfl) (fun _ _ _ h => h) (Or.inl ⟨by rfl, ?hy19⟩) (by assumption) ?rest19
  case hy19 => (intro w hSw; (try dsimp only at hSw); go_simp; (first | done | with_reducible rfl))
  simp only [Act.put, List.setIfInBounds_toArray, List.set_cons_zero, List.set_cons_succ, List.getElem_toArray, List.getElem_cons_zero, List.getElem_cons_succ]
  refine wpAnyH_ready (rs := [7]) (by kernel_rfl) (by simp) ?_
  refine AllReadyH.cons rfl (fun K hK => ?_) AllReadyH.nil
  simp only [List.getElem_toArray, List.getElem_cons_zero, List.getElem_cons_succ]
  go_simp
  go_at_call 25
  obtain ⟨h_0, h_1, h_2, h_3, h_4, h_5, h_B⟩ := hHeld
  refine (HTT.out _ _ (Z9.out.later h_B)).mono ?_
  rintro e w_k7 ⟨t3, rfl, ht3, k7⟩
  obtain ⟨at3, ct3, rfl⟩ := ht3.value
  have X9 := Lib.hid ht3
  clear ht3
  go_wp2_with fail
  refine hK.out _ _ ⟨cell_step k7 h_0, cell_step k7 h_1, cell_step k7 h_2, cell_step k7 h_3, cell_step k7 h_4, cell_step k7 h_5, below_step h_B k7⟩ (fun hHeld => ?_)
  clear hK K h_0 h_1 h_2 h_3 h_4 h_5 h_B
  try simp only [Act.put, List.setIfInBounds_toArray, List.set_cons_zero, List.set_cons_succ, List.getElem_toArray, List.getElem_cons_zero, List.getElem_cons_succ]
  refine wpAnyH_ready (rs := [8]) (by kernel_rfl) (by simp) ?_
  refine AllReadyH.cons rfl (fun K hK => ?_) AllReadyH.nil
  simp only [List.getElem_toArray, List.getElem_cons_zero, List.getElem_cons_succ]
  go_simp
  go_at_call 15
  obtain ⟨h_0, h_1, h_2, h_3, h_4, h_5, h_B⟩ := hHeld
  refine (back_any r c (.slice at3 zs.length ct3) ⟨_, _, _, rfl⟩ _).mono ?_
  rintro e w_k8 ⟨rfl, k8⟩
  have X10 := Lib.hid (X9.out.later k8)
  have W10 := Lib.hid (V8.out.later (below_step h_B k8))
  go_wp2_with fail
  refine hK.out _ _ ⟨cell_step k8 h_0, cell_step k8 h_1, cell_step k8 h_2, cell_step k8 h_3, cell_step k8 h_4, cell_step k8 h_5, below_step h_B k8⟩ (fun hHeld => ?_)
  clear hK K h_0 h_1 h_2 h_3 h_4 h_5 h_B
  try simp only [Act.put, List.setIfInBounds_toArray, List.set_cons_zero, List.set_cons_succ, List.getElem_toArray, List.getElem_cons_zero, List.getElem_cons_succ]
  refine wpAnyH_ready (rs := [10]) (by kernel_rfl) (by simp) ?_
  refine AllReadyH.cons rfl (fun K hK => ?_) AllReadyH.nil
  simp only [List.getElem_toArray, List.getElem_cons_zero, List.getElem_cons_succ]
  go_simp
  go_at_call 14
  obtain ⟨h_0, h_1, h_2, h_3, h_4, h_5, h_B⟩ := hHeld
  refine (same_same r c _ _ zs (by omega) _ X10.out W10.out).mono ?_
  rintro e w_k9 ⟨rfl, k9⟩
  have hb9 := Lib.hid (below_step h_B k9)
  go_wp2_with fail
  refine hK.out _ _ ⟨cell_step k9 h_0, cell_step k9 h_1, cell_step k9 h_2, cell_step k9 h_3, cell_step k9 h_4, cell_step k9 h_5, below_step h_B k9⟩ (fun hHeld => ?_)
  clear hK K h_0 h_1 h_2 h_3 h_4 h_5 h_B
  try simp only [Act.put, List.setIfInBounds_toArray, List.set_cons_zero, List.set_cons_succ, List.getElem_toArray, List.getElem_cons_zero, List.getElem_cons_succ]
  refine wpAnyH_take (i := 11) (v := ?v20) rfl (by kernel_rfl) (by kernel_rfl) (by kernel_rfl) (fun _ _ _ h => h) (Or.inl ⟨by rfl, ?hy20⟩) (by assumption) ?rest20
  case hy20 => (intro w hSw; (try dsimp only at hSw); go_simp; (first | done | with_reducible rfl))
  simp only [Act.put, List.setIfInBounds_toArray, List.set_cons_zero, List.set_cons_succ, List.getElem_toArray, List.getElem_cons_zero, List.getElem_cons_succ]
  refine wpAnyH_take (i := 12) (v := ?v21) rfl (by kernel_rfl) (by kernel_rfl) (by kernel_rfl) (fun _ _ _ h => h) (Or.inl ⟨by rfl, ?hy21⟩) (by assumption) ?rest21
  case hy21 => (intro w hSw; (try dsimp only at hSw); go_simp; (first | done | with_reducible rfl))
  simp only [Act.put, List.setIfInBounds_toArray, List.set_cons_zero, List.set_cons_succ, List.getElem_toArray, List.getElem_cons_zero, List.getElem_cons_succ]
  refine wpAnyH_take (i := 13) (v := ?v22) rfl (by kernel_rfl) (by kernel_rfl) (by kernel_rfl) (fun _ _ _ h => h) (Or.inl ⟨by rfl, ?hy22⟩) (by assumption) ?rest22
  case hy22 => (intro w hSw; (try dsimp only at hSw); go_simp; (first | done | with_reducible rfl))
  simp only [Act.put, List.setIfInBounds_toArray, List.set_cons_zero, List.set_cons_succ, List.getElem_toArray, List.getElem_cons_zero, List.getElem_cons_succ]
  refine wpAnyH_done (by kernel_rfl) ?_ _
  go_wp2_with fail
  go_ret
  exact ⟨rfl, below_step B8.out hb9.out⟩
set_option maxHeartbeats 8000000 in
theorem walk_turns_no (r c : Int) (v u : Value) (zs xs : List Int) (q : Int) (hz : ∀ z ∈ zs, Word z) (hx : ∀ z ∈ xs, Word z) (w : World) (hv : IntsW .i64 w.heap.size w v zs) (hu : IntsAt .i64 w.heap.size w u xs) (h6 : zs.length ≤ 600) (h7 : xs.length ≤ 600) (hr : rightB r c zs.length = false) :
    Calls Try.prog 5 #[.agg #[.int .i64 r, .int .i64 c, v], u, .int .i64 q] w fun e w' => e = .returned (.bool true) ∧ Below w.heap.size w w' := by
  obtain ⟨a, cap, rfl⟩ := hv.value
  obtain ⟨a', cap', rfl⟩ := ints_value hu
  have b0 := (Below.refl w.heap.size w).alloc (Nat.le_refl _) (.cells #[.int .i64 r, .int .i64 c, .slice a zs.length cap] 24)
  have m := Is3.new w (.int .i64 r) (.int .i64 c) (.slice a zs.length cap) 24
  have HF := Lib.hid (fun W => few_any r c a zs.length cap W)
  have g : decide (zs.length ≤ 600) = true := by simpa using h6
  rw [g] at HF
  have hm : zs.length ≤ 1048576 := by omega
  have HT := Lib.hid (fun W hv => turn_out_any r c (.slice a zs.length cap) zs hm W hv)
  have HRT := Lib.hid (fun W hv => refTurn_any r c (.slice a zs.length cap) zs hm W hv)
  have HB := Lib.hid (fun W hv hu => back_out r c (.slice a zs.length cap) (.slice a' xs.length cap') zs xs q hz hx hm W hv hu)
  have HMT := Lib.hid (fun v W hv hu => mul_out (turnR r c zs.length) (turnC r c zs.length) v (.slice a' xs.length cap') (turnZ r c zs) xs q (turnZ_word r c zs hz) hx (turnZ_length r c zs hm) W hv hu)
  have HTT := Lib.hid (fun v W hv => turn_out_any (turnR r c zs.length) (turnC r c zs.length) v (turnZ r c zs) (turnZ_length r c zs hm) W hv)
  have HRR := Lib.hid (fun W => refRight_any r c a zs.length cap W)
  rw [mulZ_turn, mul_turn] at HMT
  rw [hr] at HRR
  have L1 := Lib.hid (backZ_length r c zs xs q)
  have L2 := Lib.hid (turnZ_length r c zs hm)
  have V0 := Lib.hid (hv.later b0)
  have U0 := Lib.hid (hu.later b0)
  have B0 := Lib.hid b0
  have M0 := Lib.hid m
  generalize turnR r c zs.length = tr at *
  generalize turnC r c zs.length = tc at *
  generalize turnZ r c zs = tz at *
  generalize backZ r c zs xs q = bz at *
  generalize backB r c zs.length xs.length = bb at *
  clear hv hu g hz hx b0 m hr
  go_enter Try.func5, Try.ntmps5
  go_upto_region 1 with fail
  generalize w.alloc (.cells #[.int .i64 r, .int .i64 c, .slice a zs.length cap] 24) = W0 at *
  obtain ⟨m0, m1, m2⟩ := M0.out
  go_wp2_with fail
  refine (HF.out _).mono ?_
  rintro e w1 ⟨rfl, b1⟩
  have B1 := Lib.hid (below_step B0.out b1)
  have M1 := Lib.hid (M0.out.later b1)
  have V1 := Lib.hid (V0.out.later b1)
  have U1 := Lib.hid (U0.out.later b1)
  clear b1 m0 m1 m2
  obtain ⟨m0, m1, m2⟩ := M1.out
  go_wp2_with fail
  refine (given_any r c (.slice a zs.length cap) ⟨_, _, _, rfl⟩ _).mono ?_
  rintro e w2 ⟨rfl, b2⟩
  have B2 := Lib.hid (below_step B1.out b2)
  have M2 := Lib.hid (M1.out.later b2)
  have V2 := Lib.hid (V1.out.later b2)
  have U2 := Lib.hid (U1.out.later b2)
  clear b2 m0 m1 m2
  obtain ⟨m0, m1, m2⟩ := M2.out
  go_wp2_with fail
  refine (HT.out _ V2.out).mono ?_
  rintro e w3 ⟨t, rfl, ht, b3⟩
  obtain ⟨at_, ct, rfl⟩ := ht.value
  have T4 := Lib.hid (Is3.new w3 (.int .i64 tr) (.int .i64 tc) (.slice at_ tz.length ct) 29)
  have b4 := (Below.refl w3.heap.size w3).alloc (Nat.le_refl _) (.cells #[.int .i64 tr, .int .i64 tc, .slice at_ tz.length ct] 29)
  have B4 := Lib.hid (below_step (below_step B2.out b3) b4)
  have M4 := Lib.hid ((M2.out.later b3).later b4)
  have V4 := Lib.hid ((V2.out.later b3).later b4)
  have U4 := Lib.hid ((U2.out.later b3).later b4)
  have Z4 := Lib.hid (ht.later b4)
  clear b3 b4 m0 m1 m2 ht
  go_upto_region 4 with fail
  generalize w3.alloc (.cells #[.int .i64 tr, .int .i64 tc, .slice at_ tz.length ct] 29) = W4 at *
  generalize w3.heap.size = T at *
  obtain ⟨m0, m1, m2⟩ := M4.out
  go_wp2_with fail
  refine (given_any r c (.slice a zs.length cap) ⟨_, _, _, rfl⟩ _).mono ?_
  rintro e w5 ⟨rfl, b5⟩
  have B5 := Lib.hid (below_step B4.out b5)
  have M5 := Lib.hid (M4.out.later b5)
  have T5 := Lib.hid (T4.out.later b5)
  have V5 := Lib.hid (V4.out.later b5)
  have U5 := Lib.hid (U4.out.later b5)
  have Z5 := Lib.hid (Z4.out.later b5)
  clear b5 m0 m1 m2
  obtain ⟨m0, m1, m2⟩ := M5.out
  go_wp2_with fail
  refine (HB.out _ V5.out U5.out).mono ?_
  rintro e w6 ⟨p, rfl, hp, b6⟩
  obtain ⟨ap, cp, rfl⟩ := ints_value hp
  have B6 := Lib.hid (below_step B5.out b6)
  have M6 := Lib.hid (M5.out.later b6)
  have T6 := Lib.hid (T5.out.later b6)
  have V6 := Lib.hid (V5.out.later b6)
  have U6 := Lib.hid (U5.out.later b6)
  have Z6 := Lib.hid (Z5.out.later b6)
  have P6 := Lib.hid hp
  clear b6 m0 m1 m2 hp
  obtain ⟨t0, t1, t2⟩ := T6.out
  go_wp2_with fail
  refine (HMT.out _ _ Z6.out U6.out).mono ?_
  rintro e w7 ⟨p2, rfl, hp, b7⟩
  obtain ⟨ap2, cp2, rfl⟩ := ints_value hp
  have B7 := Lib.hid (below_step B6.out b7)
  have M7 := Lib.hid (M6.out.later b7)
  have T7 := Lib.hid (T6.out.later b7)
  have V7 := Lib.hid (V6.out.later b7)
  have Z7 := Lib.hid (Z6.out.later b7)
  have P7 := Lib.hid (P6.out.later b7)
  have Q7 := Lib.hid hp
  clear b7 t0 t1 t2 hp
  have gbb : (bb != bb) = false := by cases bb <;> rfl
  go_wp2_with fail
  refine wp_region_held_drew (S := fun w' => w'.cell? ⟨w.heap.size, 0, none⟩ = some (.int .i64 r) ∧ w'.cell? ⟨w.heap.size, 1, none⟩ = some (.int .i64 c) ∧ w'.cell? ⟨w.heap.size, 2, none⟩ = some (.slice a zs.length cap) ∧ w'.cell? ⟨T, 0, none⟩ = some (.int .i64 tr) ∧ w'.cell? ⟨T, 1, none⟩ = some (.int .i64 tc) ∧ w'.cell? ⟨T, 2, none⟩ = some (.slice at_ tz.length ct) ∧ Below w7.heap.size w7 w') (by kernel_rfl) ?_ (fun hHeld => ?_)
  · exact ⟨M7.out.c0, M7.out.c1, M7.out.c2, T7.out.c0, T7.out.c1, T7.out.c2, (Below.refl _ _).drew⟩
  refine wpAnyH_take (i := 0) (v := ?v23) rfl (by kernel_rfl) (by kernel_rfl) (by kernel_rfl) (fun _ _ _ h => h) (Or.inl ⟨by rfl, ?hy23⟩) (by assumption) ?rest23
  case hy23 => (intro w hSw; (try dsimp only at hSw); go_simp; (first | done | with_reducible rfl))
  simp only [Act.put, List.setIfInBounds_toArray, List.set_cons_zero, List.set_cons_succ, List.getElem_toArray, List.getElem_cons_zero]
  refine wpAnyH_take (i := 2) (v := ?v24) rfl (by kernel_rfl) (by kernel_rfl) (by kernel_rfl) (fun _ _ _ h => h) (Or.inl ⟨by rfl, ?hy24⟩) (by assumption) ?rest24
  case hy24 => (intro w hSw; (try dsimp only at hSw); go_simp; (first | done | with_reducible rfl))
  simp only [Act.put, List.setIfInBounds_toArray, List.set_cons_zero, List.set_cons_succ, List.getElem_toArray, List.getElem_cons_zero, List.getElem_cons_succ]
  refine wpAnyH_ready (rs := [1]) (by kernel_rfl) (by simp) ?_
  refine AllReadyH.cons rfl (fun K hK => ?_) AllReadyH.nil
  simp only [List.getElem_toArray, List.getElem_cons_zero, List.getElem_cons_succ]
  go_simp
  go_at_call 15
  obtain ⟨h_0, h_1, h_2, h_3, h_4, h_5, h_B⟩ := hHeld
  refine (back_any tr tc (.slice at_ tz.length ct) ⟨_, _, _, rfl⟩ _).mono ?_
  rintro e w_k1 ⟨rfl, k1⟩
  have hb1 := Lib.hid (below_step h_B k1)
  go_wp2_with fail
  refine hK.out _ _ ⟨cell_step k1 h_0, cell_step k1 h_1, cell_step k1 h_2, cell_step k1 h_3, cell_step k1 h_4, cell_step k1 h_5, below_step h_B k1⟩ (fun hHeld => ?_)
  clear hK K h_0 h_1 h_2 h_3 h_4 h_5 h_B
  try simp only [Act.put, List.setIfInBounds_toArray, List.set_cons_zero, List.set_cons_succ, List.getElem_toArray, List.getElem_cons_zero, List.getElem_cons_succ]
  refine wpAnyH_ready (rs := [3]) (by kernel_rfl) (by simp) ?_
  refine AllReadyH.cons rfl (fun K hK => ?_) AllReadyH.nil
  simp only [List.getElem_toArray, List.getElem_cons_zero, List.getElem_cons_succ]
  go_simp
  go_at_call 26
  obtain ⟨h_0, h_1, h_2, h_3, h_4, h_5, h_B⟩ := hHeld
  refine (HRT.out _ (V7.out.later h_B)).mono ?_
  rintro e w_k2 ⟨t2, rfl, ht2, k2⟩
  obtain ⟨at2, ct2, rfl⟩ := ht2.value
  have Z8 := Lib.hid ht2
  have Y8 := Lib.hid (Z7.out.later (below_step h_B k2))
  clear ht2
  go_wp2_with fail
  refine hK.out _ _ ⟨cell_step k2 h_0, cell_step k2 h_1, cell_step k2 h_2, cell_step k2 h_3, cell_step k2 h_4, cell_step k2 h_5, below_step h_B k2⟩ (fun hHeld => ?_)
  clear hK K h_0 h_1 h_2 h_3 h_4 h_5 h_B
  try simp only [Act.put, List.setIfInBounds_toArray, List.set_cons_zero, List.set_cons_succ, List.getElem_toArray, List.getElem_cons_zero, List.getElem_cons_succ]
  refine wpAnyH_ready (rs := [4]) (by kernel_rfl) (by simp) ?_
  refine AllReadyH.cons rfl (fun K hK => ?_) AllReadyH.nil
  simp only [List.getElem_toArray, List.getElem_cons_zero, List.getElem_cons_succ]
  go_simp
  go_at_call 14
  obtain ⟨h_0, h_1, h_2, h_3, h_4, h_5, h_B⟩ := hHeld
  refine (same_same tr tc _ _ tz L2.out _ Y8.out Z8.out).mono ?_
  rintro e w_k3 ⟨rfl, k3⟩
  have hb3 := Lib.hid (below_step h_B k3)
  go_wp2_with fail
  refine hK.out _ _ ⟨cell_step k3 h_0, cell_step k3 h_1, cell_step k3 h_2, cell_step k3 h_3, cell_step k3 h_4, cell_step k3 h_5, below_step h_B k3⟩ (fun hHeld => ?_)
  clear hK K h_0 h_1 h_2 h_3 h_4 h_5 h_B
  try simp only [Act.put, List.setIfInBounds_toArray, List.set_cons_zero, List.set_cons_succ, List.getElem_toArray, List.getElem_cons_zero, List.getElem_cons_succ]
  refine wpAnyH_take (i := 5) (v := ?v25) rfl (by kernel_rfl) (by kernel_rfl) (by kernel_rfl) (fun _ _ _ h => h) (Or.inl ⟨by rfl, ?hy25⟩) (by assumption) ?rest25
  case hy25 => (intro w hSw; (try dsimp only at hSw); go_simp; (first | done | with_reducible rfl))
  simp only [Act.put, List.setIfInBounds_toArray, List.set_cons_zero, List.set_cons_succ, List.getElem_toArray, List.getElem_cons_zero, List.getElem_cons_succ]
  refine wpAnyH_take (i := 6) (v := ?v26) rfl (by kernel_rfl) (by kernel_rfl) (by kernel_rfl) (fun _ _ _ h => h) (Or.inl ⟨by rfl, ?hy26⟩) (by assumption) ?rest26
  case hy26 => (intro w hSw; (try dsimp only at hSw); go_simp; (first | done | with_reducible rfl))
  simp only [Act.put, List.setIfInBounds_toArray, List.set_cons_zero, List.set_cons_succ, List.getElem_toArray, List.getElem_cons_zero, List.getElem_cons_succ]
  refine wpAnyH_take (i := 7) (v := ?v27) rfl (by kernel_rfl) (by kernel_rfl) (by kernel_rfl) (fun _ _ _ h => h) (Or.inl ⟨by rfl, ?hy27⟩) (by assumption) ?rest27
  case hy27 => (intro w hSw; (try dsimp only at hSw); go_simp; (first | done | with_reducible rfl))
  simp only [Act.put, List.setIfInBounds_toArray, List.set_cons_zero, List.set_cons_succ, List.getElem_toArray, List.getElem_cons_zero, List.getElem_cons_succ]
  refine wpAnyH_take (i := 8) (v := ?v28) rfl (by kernel_rfl) (by kernel_rfl) (by kernel_rfl) (fun _ _ _ h => h) (Or.inl ⟨by rfl, ?hy28⟩) (by assumption) ?rest28
  case hy28 => (intro w hSw; (try dsimp only at hSw); go_simp; (first | done | with_reducible rfl))
  simp only [Act.put, List.setIfInBounds_toArray, List.set_cons_zero, List.set_cons_succ, List.getElem_toArray, List.getElem_cons_zero, List.getElem_cons_succ]
  refine wpAnyH_take (i := 9) (v := ?v29) rfl (by kernel_rfl) (by kernel_rfl) (by kernel_rfl) (fun _ _ _ h => h) (Or.inl ⟨by rfl, ?hy29⟩) (by assumption) ?rest29
  case hy29 => (intro w hSw; (try dsimp only at hSw); go_simp; (first | done | with_reducible rfl))
  simp only [Act.put, List.setIfInBounds_toArray, List.set_cons_zero, List.set_cons_succ, List.getElem_toArray, List.getElem_cons_zero, List.getElem_cons_succ]
  refine wpAnyH_take (i := 10) (v := ?v30) rfl (by kernel_rfl) (by kernel_rfl) (by kernel_rfl) (fun _ _ _ h => h) (Or.inl ⟨by rfl, ?hy30⟩) (by assumption) ?rest30
  case hy30 => (intro w hSw; (try dsimp only at hSw); go_simp; (first | done | with_reducible rfl))
  simp only [Act.put, List.setIfInBounds_toArray, List.set_cons_zero, List.set_cons_succ, List.getElem_toArray, List.getElem_cons_zero, List.getElem_cons_succ]
  refine wpAnyH_take (i := 11) (v := ?v31) rfl (by kernel_rfl) (by kernel_rfl) (by kernel_rfl) (fun _ _ _ h => h) (Or.inl ⟨by rfl, ?hy31⟩) (by assumption) ?rest31
  case hy31 => (intro w hSw; (try dsimp only at hSw); go_simp; (first | done | with_reducible rfl))
  simp only [Act.put, List.setIfInBounds_toArray, List.set_cons_zero, List.set_cons_succ, List.getElem_toArray, List.getElem_cons_zero, List.getElem_cons_succ]
  refine wpAnyH_take (i := 12) (v := ?v32) rfl (by kernel_rfl) (by kernel_rfl) (by kernel_rfl) (fun _ _ _ h => h) (Or.inl ⟨by rfl, ?hy32⟩) (by assumption) ?rest32
  case hy32 => (intro w hSw; (try dsimp only at hSw); go_simp; (first | done | with_reducible rfl))
  simp only [Act.put, List.setIfInBounds_toArray, List.set_cons_zero, List.set_cons_succ, List.getElem_toArray, List.getElem_cons_zero, List.getElem_cons_succ]
  refine wpAnyH_take (i := 13) (v := ?v33) rfl (by kernel_rfl) (by kernel_rfl) (by kernel_rfl) (fun _ _ _ h => h) (Or.inl ⟨by rfl, ?hy33⟩) (by assumption) ?rest33
  case hy33 => (intro w hSw; (try dsimp only at hSw); go_simp; (first | done | with_reducible rfl))
  simp only [Act.put, List.setIfInBounds_toArray, List.set_cons_zero, List.set_cons_succ, List.getElem_toArray, List.getElem_cons_zero, List.getElem_cons_succ]
  refine wpAnyH_ready (rs := [14]) (by kernel_rfl) (by simp) ?_
  refine AllReadyH.cons rfl (fun K hK => ?_) AllReadyH.nil
  simp only [List.getElem_toArray, List.getElem_cons_zero, List.getElem_cons_succ]
  go_simp
  go_at_call 24
  obtain ⟨h_0, h_1, h_2, h_3, h_4, h_5, h_B⟩ := hHeld
  refine (refSame_any _ _ bz bz (by have := L1.out; omega) (by have := L1.out; omega) _ (P7.out.later h_B) (Q7.out.later h_B)).mono ?_
  rintro e w_k4 ⟨rfl, k4⟩
  rw [sameL_self]
  have hb4 := Lib.hid (below_step h_B k4)
  go_wp2_with fail
  refine hK.out _ _ ⟨cell_step k4 h_0, cell_step k4 h_1, cell_step k4 h_2, cell_step k4 h_3, cell_step k4 h_4, cell_step k4 h_5, below_step h_B k4⟩ (fun hHeld => ?_)
  clear hK K h_0 h_1 h_2 h_3 h_4 h_5 h_B
  try simp only [Act.put, List.setIfInBounds_toArray, List.set_cons_zero, List.set_cons_succ, List.getElem_toArray, List.getElem_cons_zero, List.getElem_cons_succ]
  refine wpAnyH_take (i := 15) (v := ?v34) rfl (by kernel_rfl) (by kernel_rfl) (by kernel_rfl) (fun _ _ _ h => h) (Or.inl ⟨by rfl, ?hy34⟩) (by assumption) ?rest34
  case hy34 => (intro w hSw; (try dsimp only at hSw); go_simp; (first | done | with_reducible rfl))
  simp only [Act.put, List.setIfInBounds_toArray, List.set_cons_zero, List.set_cons_succ, List.getElem_toArray, List.getElem_cons_zero, List.getElem_cons_succ]
  refine wpAnyH_take (i := 16) (v := ?v35) rfl (by kernel_rfl) (by kernel_rfl) (by kernel_rfl) (fun _ _ _ h => h) (Or.inl ⟨by rfl, ?hy35⟩) (by assumption) ?rest35
  case hy35 => (intro w hSw; (try dsimp only at hSw); go_simp; (first | done | with_reducible rfl))
  simp only [Act.put, List.setIfInBounds_toArray, List.set_cons_zero, List.set_cons_succ, List.getElem_toArray, List.getElem_cons_zero, List.getElem_cons_succ]
  refine wpAnyH_done (by kernel_rfl) ?_ _
  obtain ⟨n0, n1, n2, n3, n4, n5, h_B⟩ := hHeld
  have B8 := Lib.hid (below_step B7.out h_B)
  have V8 := Lib.hid (V7.out.later h_B)
  have Z9 := Lib.hid (Z7.out.later h_B)
  clear h_B hb1 hb3 hb4 Z8 Y8 P7 Q7
  go_wp2_with fail
  refine wp_region_held_drew (S := fun w' => w'.cell? ⟨w.heap.size, 0, none⟩ = some (.int .i64 r) ∧ w'.cell? ⟨w.heap.size, 1, none⟩ = some (.int .i64 c) ∧ w'.cell? ⟨w.heap.size, 2, none⟩ = some (.slice a zs.length cap) ∧ w'.cell? ⟨T, 0, none⟩ = some (.int .i64 tr) ∧ w'.cell? ⟨T, 1, none⟩ = some (.int .i64 tc) ∧ w'.cell? ⟨T, 2, none⟩ = some (.slice at_ tz.length ct) ∧ Below w_k4.heap.size w_k4 w') (by kernel_rfl) ?_ (fun hHeld => ?_)
  · exact ⟨n0, n1, n2, n3, n4, n5, (Below.refl _ _).drew⟩
  refine wpAnyH_ready (rs := [0]) (by kernel_rfl) (by simp) ?_
  refine AllReadyH.cons rfl (fun K hK => ?_) AllReadyH.nil
  simp only [List.getElem_toArray, List.getElem_cons_zero]
  go_simp
  go_at_call 9
  obtain ⟨h_0, h_1, h_2, h_3, h_4, h_5, h_B⟩ := hHeld
  refine (alive7_any _).mono ?_
  rintro e w_k5 ⟨rfl, k5⟩
  have hb5 := Lib.hid (below_step h_B k5)
  go_wp2_with fail
  refine hK.out _ _ ⟨cell_step k5 h_0, cell_step k5 h_1, cell_step k5 h_2, cell_step k5 h_3, cell_step k5 h_4, cell_step k5 h_5, below_step h_B k5⟩ (fun hHeld => ?_)
  clear hK K h_0 h_1 h_2 h_3 h_4 h_5 h_B
  try simp only [Act.put, List.setIfInBounds_toArray, List.set_cons_zero, List.set_cons_succ, List.getElem_toArray, List.getElem_cons_zero, List.getElem_cons_succ]
  refine wpAnyH_take (i := 1) (v := ?v36) rfl (by kernel_rfl) (by kernel_rfl) (by kernel_rfl) (fun _ _ _ h => h) (Or.inl ⟨by rfl, ?hy36⟩) (by assumption) ?rest36
  case hy36 => (intro w hSw; (try dsimp only at hSw); go_simp; (first | done | with_reducible rfl))
  simp only [Act.put, List.setIfInBounds_toArray, List.set_cons_zero, List.set_cons_succ, List.getElem_toArray, List.getElem_cons_zero, List.getElem_cons_succ]
  refine wpAnyH_take (i := 2) (v := ?v37) rfl (by kernel_rfl) (by kernel_rfl) (by kernel_rfl) (fun _ _ _ h => h) (Or.inl ⟨by rfl, ?hy37⟩) (by assumption) ?rest37
  case hy37 => (intro w hSw; (try dsimp only at hSw); go_simp; (first | done | with_reducible rfl))
  simp only [Act.put, List.setIfInBounds_toArray, List.set_cons_zero, List.set_cons_succ, List.getElem_toArray, List.getElem_cons_zero, List.getElem_cons_succ]
  refine wpAnyH_ready (rs := [3]) (by kernel_rfl) (by simp) ?_
  refine AllReadyH.cons rfl (fun K hK => ?_) AllReadyH.nil
  simp only [List.getElem_toArray, List.getElem_cons_zero, List.getElem_cons_succ]
  go_simp
  go_at_call 12
  obtain ⟨h_0, h_1, h_2, h_3, h_4, h_5, h_B⟩ := hHeld
  refine (HRR.out _).mono ?_
  rintro e w_k6 ⟨rfl, k6⟩
  have hb6 := Lib.hid (below_step h_B k6)
  go_wp2_with fail
  refine hK.out _ _ ⟨cell_step k6 h_0, cell_step k6 h_1, cell_step k6 h_2, cell_step k6 h_3, cell_step k6 h_4, cell_step k6 h_5, below_step h_B k6⟩ (fun hHeld => ?_)
  clear hK K h_0 h_1 h_2 h_3 h_4 h_5 h_B
  try simp only [Act.put, List.setIfInBounds_toArray, List.set_cons_zero, List.set_cons_succ, List.getElem_toArray, List.getElem_cons_zero, List.getElem_cons_succ]
  refine wpAnyH_take (i := 4) (v := ?v38) rfl (by kernel_rfl) (by kernel_rfl) (by kernel_rfl) (fun _ _ _ h => h) (Or.inl ⟨by rfl, ?hy38⟩) (by assumption) ?rest38
  case hy38 => (intro w hSw; (try dsimp only at hSw); go_simp; (first | done | with_reducible rfl))
  simp only [Act.put, List.setIfInBounds_toArray, List.set_cons_zero, List.set_cons_succ, List.getElem_toArray, List.getElem_cons_zero, List.getElem_cons_succ]
  refine wpAnyH_take (i := 5) (v := ?v39) rfl (by kernel_rfl) (by kernel_rfl) (by kernel_rfl) (fun _ _ _ h => h) (Or.inl ⟨by rfl, ?hy39⟩) (by assumption) ?rest39
  case hy39 => (intro w hSw; (try dsimp only at hSw); go_simp; (first | done | with_reducible rfl))
  simp only [Act.put, List.setIfInBounds_toArray, List.set_cons_zero, List.set_cons_succ, List.getElem_toArray, List.getElem_cons_zero, List.getElem_cons_succ]
  refine wpAnyH_take (i := 6) (v := undef) rfl (by kernel_rfl) (by kernel_rfl) (by kernel_rfl) (fun _ _ _ h => h) (Or.inr ⟨by rfl, rfl⟩) (by assumption) ?rest40
  simp only [Act.put, List.setIfInBounds_toArray, List.set_cons_zero, List.set_cons_succ, List.getElem_toArray, List.getElem_cons_zero, List.getElem_cons_succ]
  refine wpAnyH_take (i := 7) (v := undef) rfl (by kernel_rfl) (by kernel_rfl) (by kernel_rfl) (fun _ _ _ h => h) (Or.inr ⟨by rfl, rfl⟩) (by assumption) ?rest41
  simp only [Act.put, List.setIfInBounds_toArray, List.set_cons_zero, List.set_cons_succ, List.getElem_toArray, List.getElem_cons_zero, List.getElem_cons_succ]
  refine wpAnyH_take (i := 8) (v := undef) rfl (by kernel_rfl) (by kernel_rfl) (by kernel_rfl) (fun _ _ _ h => h) (Or.inr ⟨by rfl, rfl⟩) (by assumption) ?rest42
  simp only [Act.put, List.setIfInBounds_toArray, List.set_cons_zero, List.set_cons_succ, List.getElem_toArray, List.getElem_cons_zero, List.getElem_cons_succ]
  refine wpAnyH_take (i := 9) (v := undef) rfl (by kernel_rfl) (by kernel_rfl) (by kernel_rfl) (fun _ _ _ h => h) (Or.inr ⟨by rfl, rfl⟩) (by assumption) ?rest43
  simp only [Act.put, List.setIfInBounds_toArray, List.set_cons_zero, List.set_cons_succ, List.getElem_toArray, List.getElem_cons_zero, List.getElem_cons_succ]
  refine wpAnyH_take (i := 10) (v := undef) rfl (by kernel_rfl) (by kernel_rfl) (by kernel_rfl) (fun _ _ _ h => h) (Or.inr ⟨by rfl, rfl⟩) (by assumption) ?rest44
  simp only [Act.put, List.setIfInBounds_toArray, List.set_cons_zero, List.set_cons_succ, List.getElem_toArray, List.getElem_cons_zero, List.getElem_cons_succ]
  refine wpAnyH_take (i := 11) (v := ?v45) rfl (by kernel_rfl) (by kernel_rfl) (by kernel_rfl) (fun _ _ _ h => h) (Or.inl ⟨by rfl, ?hy45⟩) (by assumption) ?rest45
  case hy45 => (intro w hSw; (try dsimp only at hSw); go_simp; (first | done | with_reducible rfl))
  simp only [Act.put, List.setIfInBounds_toArray, List.set_cons_zero, List.set_cons_succ, List.getElem_toArray, List.getElem_cons_zero, List.getElem_cons_succ]
  refine wpAnyH_take (i := 12) (v := ?v46) rfl (by kernel_rfl) (by kernel_rfl) (by kernel_rfl) (fun _ _ _ h => h) (Or.inl ⟨by rfl, ?hy46⟩) (by assumption) ?rest46
  case hy46 => (intro w hSw; (try dsimp only at hSw); go_simp; (first | done | with_reducible rfl))
  simp only [Act.put, List.setIfInBounds_toArray, List.set_cons_zero, List.set_cons_succ, List.getElem_toArray, List.getElem_cons_zero, List.getElem_cons_succ]
  refine wpAnyH_take (i := 13) (v := ?v47) rfl (by kernel_rfl) (by kernel_rfl) (by kernel_rfl) (fun _ _ _ h => h) (Or.inl ⟨by rfl, ?hy47⟩) (by assumption) ?rest47
  case hy47 => (intro w hSw; (try dsimp only at hSw); go_simp; (first | done | with_reducible rfl))
  simp only [Act.put, List.setIfInBounds_toArray, List.set_cons_zero, List.set_cons_succ, List.getElem_toArray, List.getElem_cons_zero, List.getElem_cons_succ]
  refine wpAnyH_done (by kernel_rfl) ?_ _
  have hb9 := hb6
  go_wp2_with fail
  go_ret
  exact ⟨rfl, below_step B8.out hb9.out⟩
theorem walk_turns (r c : Int) (v u : Value) (zs xs : List Int) (q : Int) (hz : ∀ z ∈ zs, Word z) (hx : ∀ z ∈ xs, Word z) (w : World) (hv : IntsW .i64 w.heap.size w v zs) (hu : IntsAt .i64 w.heap.size w u xs) (hmx : xs.length ≤ maxLen) :
    Calls Try.prog 5 #[.agg #[.int .i64 r, .int .i64 c, v], u, .int .i64 q] w fun e w' => e = .returned (.bool true) ∧ Below w.heap.size w w' := by
  by_cases h6 : zs.length ≤ 600 ∧ xs.length ≤ 600
  case neg => exact walk_turns_big r c v u zs xs q w hv hu hmx (by omega)
  cases hr : rightB r c zs.length
  · exact walk_turns_no r c v u zs xs q hz hx w hv hu h6.1 h6.2 hr
  · exact walk_turns_yes r c v u zs xs q hz hx w hv hu h6.1 h6.2 hr
end Go.Proofs.Ytinflmjombcolaa
