/- Layer 7: the walk of MatMakes. -/
import Derived.Test.YtinflmjombcolaaMatL
import Derived.Test.YtinflmjombcolaaMatE
import Derived.Deep.Cut
namespace Go.Proofs.Ytinflmjombcolaa
open Go.RowKit
set_option linter.unusedVariables false
def ofR (r c : Int) (n : Nat) : Int := if rightB r c n then r else 0
def ofC (r c : Int) (n : Nat) : Int := if rightB r c n then c else 0
def ofZ (r c : Int) (zs : List Int) : List Int := if rightB r c zs.length then zs else []
def Made (r c : Int) (zs : List Int) (w : World) (e : Ending) (w' : World) : Prop := ∃ v, e = .returned (.agg #[.int .i64 r, .int .i64 c, v]) ∧ IntsW .i64 w'.heap.size w' v zs ∧ Below w.heap.size w w'
def MadeOk (r c : Int) (zs : List Int) (b : Bool) (w : World) (e : Ending) (w' : World) : Prop := ∃ v, e = .returned (.tuple #[.agg #[.int .i64 r, .int .i64 c, v], .bool b]) ∧ IntsW .i64 w'.heap.size w' v zs ∧ Below w.heap.size w w'
theorem of_mat_yes (r c : Int) (v : Value) (zs : List Int) (hm : zs.length ≤ 1048576) (hr : rightB r c zs.length = true) (w : World) (hv : IntsW .i64 w.heap.size w v zs) :
    Calls Try.prog 11 #[.int .i64 r, .int .i64 c, v] w (MadeOk r c zs true w) := by
  refine (of_mat_any r c v zs hm w hv).mono ?_
  intro e w' h
  unfold OfMat at h
  rw [if_pos hr] at h
  obtain ⟨v, rfl, o, b⟩ := h
  exact ⟨v, rfl, .inr (ints_own o), b⟩
theorem of_mat_no (r c : Int) (v : Value) (zs : List Int) (hm : zs.length ≤ 1048576) (hr : rightB r c zs.length = false) (w : World) (hv : IntsW .i64 w.heap.size w v zs) :
    Calls Try.prog 11 #[.int .i64 r, .int .i64 c, v] w (MadeOk 0 0 [] false w) := by
  refine (of_mat_any r c v zs hm w hv).mono ?_
  intro e w' h
  unfold OfMat at h
  rw [if_neg (by rw [hr]; simp)] at h
  obtain ⟨rfl, b⟩ := h
  exact ⟨_, rfl, .inr IntsAt.nil, b⟩
def newR (r c : Int) : Int := if newB r c then r else 0
def newC (r c : Int) : Int := if newB r c then c else 0
def newZ (r c : Int) : List Int := if newB r c then List.replicate (r.toNat * c.toNat) 0 else []
theorem newZ_length (r c : Int) : (newZ r c).length ≤ 1048576 := by
  unfold newZ
  cases h : newB r c
  · simp
  · obtain ⟨r1, c1, p, r2, c2⟩ := new_small h
    rw [if_pos rfl, List.length_replicate]
    have : ((r.toNat * c.toNat : Nat) : Int) = r * c := by
      rw [Int.natCast_mul, Int.toNat_of_nonneg (by omega), Int.toNat_of_nonneg (by omega)]
    omega
theorem made_new {r c : Int} {w w' : World} {e : Ending} (h : NewMat r c w e w') : Made (newR r c) (newC r c) (newZ r c) w e w' := by
  unfold NewMat at h
  unfold newR newC newZ
  cases hb : newB r c
  · rw [hb] at h
    obtain ⟨rfl, b⟩ := h
    exact ⟨_, rfl, .inr IntsAt.nil, b⟩
  · obtain ⟨r1, c1, p, r2, c2⟩ := new_small hb
    rw [hb] at h
    obtain ⟨v, rfl, o, b⟩ := h
    refine ⟨v, ?_, .inr ?_, b⟩
    · rw [Int.toNat_of_nonneg (by omega), Int.toNat_of_nonneg (by omega)]; rfl
    · rw [if_pos rfl]
      exact IntsAt.of_owns (n := r.toNat * c.toNat) (by simp) (by rw [List.map_replicate]; exact o)
/-- three cells of a block -/
structure Is3 (W : World) (B : Nat) (x y z : Value) : Prop where
  c0 : W.cell? ⟨B, 0, none⟩ = some x
  c1 : W.cell? ⟨B, 1, none⟩ = some y
  c2 : W.cell? ⟨B, 2, none⟩ = some z
theorem Is3.new (w : World) (x y z : Value) (t : TypeId) : Is3 (w.alloc (.cells #[x, y, z] t)) w.heap.size x y z := ⟨cell_new w #[x, y, z] t 0, cell_new w #[x, y, z] t 1, cell_new w #[x, y, z] t 2⟩
theorem Is3.later {W W' : World} {B : Nat} {x y z : Value} (h : Is3 W B x y z) (b : Below W.heap.size W W') : Is3 W' B x y z := ⟨cell_step b h.c0, cell_step b h.c1, cell_step b h.c2⟩
set_option maxHeartbeats 2000000 in
theorem walk_makes_big (r c i j : Int) (v : Value) (zs : List Int) (w : World) (hv : IntsW .i64 w.heap.size w v zs) (h6 : 600 < zs.length) :
    Calls Try.prog 3 #[.agg #[.int .i64 r, .int .i64 c, v], .int .i64 i, .int .i64 j] w fun e w' => e = .returned (.bool true) ∧ Below w.heap.size w w' := by
  obtain ⟨a, cap, rfl⟩ := hv.value
  have b0 := (Below.refl w.heap.size w).alloc (Nat.le_refl _) (.cells #[.int .i64 r, .int .i64 c, .slice a zs.length cap] 24)
  have m := Is3.new w (.int .i64 r) (.int .i64 c) (.slice a zs.length cap) 24
  obtain ⟨m0, m1, m2⟩ := m
  have g : decide (zs.length ≤ 600) = false := by simp; omega
  have HF := Lib.hid (fun W => few_any r c a zs.length cap W)
  rw [g] at HF
  clear hv g
  go_enter Try.func3, Try.ntmps3
  go_wp2_with fail
  refine (HF.out _).mono ?_
  rintro e w1 ⟨rfl, b1⟩
  go_wp2_with fail
  refine (alive7_any _).mono ?_
  rintro e w2 ⟨rfl, b2⟩
  go_wp2_with fail
  go_ret
  exact ⟨rfl, below_step (below_step b0 b1) b2⟩
set_option maxHeartbeats 8000000 in
theorem walk_makes_yes (r c i j : Int) (hrb : -9223372036854775808 ≤ r ∧ r ≤ 9223372036854775807) (hcb : -9223372036854775808 ≤ c ∧ c ≤ 9223372036854775807) (v : Value) (zs : List Int) (w : World) (hv : IntsW .i64 w.heap.size w v zs) (h6 : zs.length ≤ 600) (hr : rightB r c zs.length = true) :
    Calls Try.prog 3 #[.agg #[.int .i64 r, .int .i64 c, v], .int .i64 i, .int .i64 j] w fun e w' => e = .returned (.bool true) ∧ Below w.heap.size w w' := by
  obtain ⟨a, cap, rfl⟩ := hv.value
  have b0 := (Below.refl w.heap.size w).alloc (Nat.le_refl _) (.cells #[.int .i64 r, .int .i64 c, .slice a zs.length cap] 24)
  have m := Is3.new w (.int .i64 r) (.int .i64 c) (.slice a zs.length cap) 24
  have hs0 : (w.alloc (.cells #[.int .i64 r, .int .i64 c, .slice a zs.length cap] 24)).heap.size = w.heap.size + 1 := by simp
  have g : decide (zs.length ≤ 600) = true := by simpa using h6
  have HF := Lib.hid (fun W => few_any r c a zs.length cap W)
  have HMR := Lib.hid (fun W => mright_any r c a zs.length cap W)
  have HRR := Lib.hid (fun W => refRight_any r c a zs.length cap W)
  have HOF := Lib.hid (fun W => of_mat_yes r c (.slice a zs.length cap) zs (by omega) hr W)
  have HAT := Lib.hid (fun W => at_any r c (.slice a zs.length cap) zs i j (by omega) W)
  have HRA := Lib.hid (fun W => refAt_any r c (.slice a zs.length cap) zs i j (by omega) W)
  rw [g] at HF
  rw [hr] at HMR HRR
  have HN := Lib.hid (fun W => (new_mat_any r c hrb hcb W).mono fun _ _ h => made_new h)
  have HRN := Lib.hid (fun W => (refNew_any r c hrb hcb W).mono fun _ _ h => made_new h)
  have HNZ := Lib.hid (newZ_length r c)
  have HV := Lib.hid (hv.later b0)
  have B0 := Lib.hid b0
  have M0 := Lib.hid m
  generalize atM r c zs i j = at_ at *
  generalize newR r c = nr at *
  generalize newC r c = nc at *
  generalize newZ r c = nz at *
  clear hv g hr b0 m hrb hcb
  go_enter Try.func3, Try.ntmps3
  go_upto_region 1 with fail
  generalize w.alloc (.cells #[.int .i64 r, .int .i64 c, .slice a zs.length cap] 24) = W0 at *
  obtain ⟨m0, m1, m2⟩ := M0.out
  go_wp2_with fail
  refine (HF.out _).mono ?_
  rintro e w1 ⟨rfl, b1⟩
  have B1 := Lib.hid (below_step B0.out b1)
  have M1 := Lib.hid (M0.out.later b1)
  have V1 := Lib.hid (HV.out.later b1)
  clear b1 m0 m1 m2 HF
  obtain ⟨m0, m1, m2⟩ := M1.out
  go_wp2_with fail
  refine (given_any r c (.slice a zs.length cap) ⟨_, _, _, rfl⟩ _).mono ?_
  rintro e w2 ⟨rfl, b2⟩
  have X2 := Lib.hid (Is3.new w2 (.int .i64 r) (.int .i64 c) (.slice a zs.length cap) 29)
  have b3 := (Below.refl w2.heap.size w2).alloc (Nat.le_refl _) (.cells #[.int .i64 r, .int .i64 c, .slice a zs.length cap] 29)
  have B3 := Lib.hid (below_step (below_step B1.out b2) b3)
  have M3 := Lib.hid ((M1.out.later b2).later b3)
  have V3 := Lib.hid ((V1.out.later b2).later b3)
  clear b2 b3 m0 m1 m2
  go_upto_region 4 with fail
  generalize w2.alloc (.cells #[.int .i64 r, .int .i64 c, .slice a zs.length cap] 29) = W3 at *
  generalize w2.heap.size = X at *
  obtain ⟨m0, m1, m2⟩ := M3.out
  go_wp2_with fail
  refine (HOF.out _ V3.out).mono ?_
  rintro e w4 ⟨y, rfl, hy, b4⟩
  obtain ⟨ay, cy, rfl⟩ := hy.value
  have Y5 := Lib.hid (Is3.new w4 (.int .i64 r) (.int .i64 c) (.slice ay zs.length cy) 29)
  have b5 := (Below.refl w4.heap.size w4).alloc (Nat.le_refl _) (.cells #[.int .i64 r, .int .i64 c, .slice ay zs.length cy] 29)
  have B5 := Lib.hid (below_step (below_step B3.out b4) b5)
  have M5 := Lib.hid ((M3.out.later b4).later b5)
  have X5 := Lib.hid ((X2.out.later b4).later b5)
  have V5 := Lib.hid ((V3.out.later b4).later b5)
  have HY5 := Lib.hid (hy.later b5)
  clear b4 b5 m0 m1 m2 hy
  go_upto_region 5 with fail
  generalize w4.alloc (.cells #[.int .i64 r, .int .i64 c, .slice ay zs.length cy] 29) = W5 at *
  generalize w4.heap.size = Y at *
  obtain ⟨m0, m1, m2⟩ := M5.out
  go_wp2_with fail
  refine (HRR.out _).mono ?_
  rintro e w6 ⟨rfl, b6⟩
  have C6 := Lib.hid (Cell3.new w6 (.int .i64 0) (.int .i64 0) (.slice none 0 0) 24)
  have Z6 := Lib.hid (Is3.new w6 (.int .i64 0) (.int .i64 0) (.slice none 0 0) 24)
  have b7 := Lib.hid ((Below.refl w6.heap.size w6).alloc (Nat.le_refl _) (.cells #[.int .i64 0, .int .i64 0, .slice none 0 0] 24))
  have M6 := Lib.hid (M5.out.later b6)
  have X6 := Lib.hid (X5.out.later b6)
  have Y6 := Lib.hid (Y5.out.later b6)
  have V6 := Lib.hid (V5.out.later b6)
  have HY6 := Lib.hid (HY5.out.later b6)
  have B6 := Lib.hid (below_step B5.out b6)
  clear b6 m0 m1 m2
  go_upto_region 7 with fail
  generalize w6.alloc (.cells #[.int .i64 0, .int .i64 0, .slice none 0 0] 24) = W7 at *
  obtain ⟨m0, m1, m2⟩ := M6.out.later b7.out
  have ST := Lib.hid (stored3 C6.out (.int .i64 r) (.int .i64 c) (.slice a zs.length cap))
  have b8 := Lib.hid (b7.out.trans ST.out.2.2.2)
  have Z8 := Lib.hid (⟨ST.out.1, ST.out.2.1, ST.out.2.2.1⟩ : Is3 _ w6.heap.size _ _ _)
  obtain ⟨⟨x, c0⟩, ⟨y, c1⟩, ⟨z, c2⟩, f0, f1, f2⟩ := C6.out
  go_upto_region 9 with fail
  generalize (((W7.setCell ⟨w6.heap.size, 0, none⟩ (.int .i64 r)).setCell ⟨w6.heap.size, 1, none⟩ (.int .i64 c)).setCell ⟨w6.heap.size, 2, none⟩ (.slice a zs.length cap)) = W8 at *
  clear m0 m1 m2 c0 c1 c2 f0 f1 f2
  have M8 := Lib.hid (M6.out.later b8.out)
  have X8 := Lib.hid (X6.out.later b8.out)
  have Y8 := Lib.hid (Y6.out.later b8.out)
  have V8 := Lib.hid (V6.out.later b8.out)
  have HY8 := Lib.hid (HY6.out.later b8.out)
  have B8 := Lib.hid (below_step B6.out b8.out)
  clear M6 X6 Y6 V6 HY6 B6 b8 b7
  generalize w6.heap.size = ZZ at *
  go_wp2_with fail
  refine wp_region_held_drew (S := fun w' => w'.cell? ⟨w.heap.size, 0, none⟩ = some (.int .i64 r) ∧ w'.cell? ⟨w.heap.size, 1, none⟩ = some (.int .i64 c) ∧ w'.cell? ⟨w.heap.size, 2, none⟩ = some (.slice a zs.length cap) ∧ w'.cell? ⟨X, 0, none⟩ = some (.int .i64 r) ∧ w'.cell? ⟨X, 1, none⟩ = some (.int .i64 c) ∧ w'.cell? ⟨X, 2, none⟩ = some (.slice a zs.length cap) ∧ w'.cell? ⟨Y, 0, none⟩ = some (.int .i64 r) ∧ w'.cell? ⟨Y, 1, none⟩ = some (.int .i64 c) ∧ w'.cell? ⟨Y, 2, none⟩ = some (.slice ay zs.length cy) ∧ w'.cell? ⟨ZZ, 0, none⟩ = some (.int .i64 r) ∧ w'.cell? ⟨ZZ, 1, none⟩ = some (.int .i64 c) ∧ w'.cell? ⟨ZZ, 2, none⟩ = some (.slice a zs.length cap) ∧ Below W8.heap.size W8 w') (by kernel_rfl) ?_ (fun hHeld => ?_)
  · exact ⟨M8.out.c0, M8.out.c1, M8.out.c2, X8.out.c0, X8.out.c1, X8.out.c2, Y8.out.c0, Y8.out.c1, Y8.out.c2, Z8.out.c0, Z8.out.c1, Z8.out.c2, (Below.refl _ _).drew⟩
  refine wpAnyH_take (i := 0) (v := ?v1) rfl (by kernel_rfl) (by kernel_rfl) (by kernel_rfl) (fun _ _ _ h => h) (Or.inl ⟨by rfl, ?hy1⟩) (by assumption) ?rest1
  case hy1 => (intro w hSw; (try dsimp only at hSw); go_simp; (first | done | with_reducible rfl))
  simp only [Act.put, List.setIfInBounds_toArray, List.set_cons_zero, List.set_cons_succ, List.getElem_toArray, List.getElem_cons_zero]
  refine wpAnyH_take (i := 2) (v := ?v2) rfl (by kernel_rfl) (by kernel_rfl) (by kernel_rfl) (fun _ _ _ h => h) (Or.inl ⟨by rfl, ?hy2⟩) (by assumption) ?rest2
  case hy2 => (intro w hSw; (try dsimp only at hSw); go_simp; (first | done | with_reducible rfl))
  simp only [Act.put, List.setIfInBounds_toArray, List.set_cons_zero, List.set_cons_succ, List.getElem_toArray, List.getElem_cons_zero, List.getElem_cons_succ]
  refine wpAnyH_ready (rs := [1]) (by kernel_rfl) (by simp) ?_
  refine AllReadyH.cons rfl (fun K hK => ?_) AllReadyH.nil
  simp only [List.getElem_toArray, List.getElem_cons_zero, List.getElem_cons_succ]
  go_simp
  go_at_call 13
  obtain ⟨h_0, h_1, h_2, h_3, h_4, h_5, h_6, h_7, h_8, h_9, h_10, h_11, h_B⟩ := hHeld
  refine (HMR.out _).mono ?_
  rintro e w_k1 ⟨rfl, k1⟩
  have hb1 := Lib.hid (below_step h_B k1)
  go_wp2_with fail
  refine hK.out _ _ ⟨cell_step k1 h_0, cell_step k1 h_1, cell_step k1 h_2, cell_step k1 h_3, cell_step k1 h_4, cell_step k1 h_5, cell_step k1 h_6, cell_step k1 h_7, cell_step k1 h_8, cell_step k1 h_9, cell_step k1 h_10, cell_step k1 h_11, below_step h_B k1⟩ (fun hHeld => ?_)
  clear hK K h_0 h_1 h_2 h_3 h_4 h_5 h_6 h_7 h_8 h_9 h_10 h_11 h_B
  try simp only [Act.put, List.setIfInBounds_toArray, List.set_cons_zero, List.set_cons_succ, List.getElem_toArray, List.getElem_cons_zero, List.getElem_cons_succ]
  refine wpAnyH_take (i := 3) (v := ?v3) rfl (by kernel_rfl) (by kernel_rfl) (by kernel_rfl) (fun _ _ _ h => h) (Or.inl ⟨by rfl, ?hy3⟩) (by assumption) ?rest3
  case hy3 => (intro w hSw; (try dsimp only at hSw); go_simp; (first | done | with_reducible rfl))
  simp only [Act.put, List.setIfInBounds_toArray, List.set_cons_zero, List.set_cons_succ, List.getElem_toArray, List.getElem_cons_zero, List.getElem_cons_succ]
  refine wpAnyH_take (i := 4) (v := ?v4) rfl (by kernel_rfl) (by kernel_rfl) (by kernel_rfl) (fun _ _ _ h => h) (Or.inl ⟨by rfl, ?hy4⟩) (by assumption) ?rest4
  case hy4 => (intro w hSw; (try dsimp only at hSw); go_simp; (first | done | with_reducible rfl))
  simp only [Act.put, List.setIfInBounds_toArray, List.set_cons_zero, List.set_cons_succ, List.getElem_toArray, List.getElem_cons_zero, List.getElem_cons_succ]
  refine wpAnyH_take (i := 5) (v := ?v5) rfl (by kernel_rfl) (by kernel_rfl) (by kernel_rfl) (fun _ _ _ h => h) (Or.inl ⟨by rfl, ?hy5⟩) (by assumption) ?rest5
  case hy5 => (intro w hSw; (try dsimp only at hSw); go_simp; (first | done | with_reducible rfl))
  simp only [Act.put, List.setIfInBounds_toArray, List.set_cons_zero, List.set_cons_succ, List.getElem_toArray, List.getElem_cons_zero, List.getElem_cons_succ]
  refine wpAnyH_take (i := 6) (v := ?v6) rfl (by kernel_rfl) (by kernel_rfl) (by kernel_rfl) (fun _ _ _ h => h) (Or.inl ⟨by rfl, ?hy6⟩) (by assumption) ?rest6
  case hy6 => (intro w hSw; (try dsimp only at hSw); go_simp; (first | done | with_reducible rfl))
  simp only [Act.put, List.setIfInBounds_toArray, List.set_cons_zero, List.set_cons_succ, List.getElem_toArray, List.getElem_cons_zero, List.getElem_cons_succ]
  refine wpAnyH_take (i := 7) (v := ?v7) rfl (by kernel_rfl) (by kernel_rfl) (by kernel_rfl) (fun _ _ _ h => h) (Or.inl ⟨by rfl, ?hy7⟩) (by assumption) ?rest7
  case hy7 => (intro w hSw; (try dsimp only at hSw); go_simp; (first | done | with_reducible rfl))
  simp only [Act.put, List.setIfInBounds_toArray, List.set_cons_zero, List.set_cons_succ, List.getElem_toArray, List.getElem_cons_zero, List.getElem_cons_succ]
  refine wpAnyH_take (i := 8) (v := ?v8) rfl (by kernel_rfl) (by kernel_rfl) (by kernel_rfl) (fun _ _ _ h => h) (Or.inl ⟨by rfl, ?hy8⟩) (by assumption) ?rest8
  case hy8 => (intro w hSw; (try dsimp only at hSw); go_simp; (first | done | with_reducible rfl))
  simp only [Act.put, List.setIfInBounds_toArray, List.set_cons_zero, List.set_cons_succ, List.getElem_toArray, List.getElem_cons_zero, List.getElem_cons_succ]
  refine wpAnyH_take (i := 9) (v := ?v9) rfl (by kernel_rfl) (by kernel_rfl) (by kernel_rfl) (fun _ _ _ h => h) (Or.inl ⟨by rfl, ?hy9⟩) (by assumption) ?rest9
  case hy9 => (intro w hSw; (try dsimp only at hSw); go_simp; (first | done | with_reducible rfl))
  simp only [Act.put, List.setIfInBounds_toArray, List.set_cons_zero, List.set_cons_succ, List.getElem_toArray, List.getElem_cons_zero, List.getElem_cons_succ]
  refine wpAnyH_take (i := 10) (v := ?v10) rfl (by kernel_rfl) (by kernel_rfl) (by kernel_rfl) (fun _ _ _ h => h) (Or.inl ⟨by rfl, ?hy10⟩) (by assumption) ?rest10
  case hy10 => (intro w hSw; (try dsimp only at hSw); go_simp; (first | done | with_reducible rfl))
  simp only [Act.put, List.setIfInBounds_toArray, List.set_cons_zero, List.set_cons_succ, List.getElem_toArray, List.getElem_cons_zero, List.getElem_cons_succ]
  refine wpAnyH_take (i := 12) (v := ?v11) rfl (by kernel_rfl) (by kernel_rfl) (by kernel_rfl) (fun _ _ _ h => h) (Or.inl ⟨by rfl, ?hy11⟩) (by assumption) ?rest11
  case hy11 => (intro w hSw; (try dsimp only at hSw); go_simp; (first | done | with_reducible rfl))
  simp only [Act.put, List.setIfInBounds_toArray, List.set_cons_zero, List.set_cons_succ, List.getElem_toArray, List.getElem_cons_zero, List.getElem_cons_succ]
  refine wpAnyH_ready (rs := [11]) (by kernel_rfl) (by simp) ?_
  refine AllReadyH.cons rfl (fun K hK => ?_) AllReadyH.nil
  simp only [List.getElem_toArray, List.getElem_cons_zero, List.getElem_cons_succ]
  go_simp
  go_at_call 15
  obtain ⟨h_0, h_1, h_2, h_3, h_4, h_5, h_6, h_7, h_8, h_9, h_10, h_11, h_B⟩ := hHeld
  refine (back_any r c (.slice ay zs.length cy) ⟨_, _, _, rfl⟩ _).mono ?_
  rintro e w_k2 ⟨rfl, k2⟩
  have hb2 := Lib.hid (below_step h_B k2)
  go_wp2_with fail
  refine hK.out _ _ ⟨cell_step k2 h_0, cell_step k2 h_1, cell_step k2 h_2, cell_step k2 h_3, cell_step k2 h_4, cell_step k2 h_5, cell_step k2 h_6, cell_step k2 h_7, cell_step k2 h_8, cell_step k2 h_9, cell_step k2 h_10, cell_step k2 h_11, below_step h_B k2⟩ (fun hHeld => ?_)
  clear hK K h_0 h_1 h_2 h_3 h_4 h_5 h_6 h_7 h_8 h_9 h_10 h_11 h_B
  try simp only [Act.put, List.setIfInBounds_toArray, List.set_cons_zero, List.set_cons_succ, List.getElem_toArray, List.getElem_cons_zero, List.getElem_cons_succ]
  refine wpAnyH_ready (rs := [13]) (by kernel_rfl) (by simp) ?_
  refine AllReadyH.cons rfl (fun K hK => ?_) AllReadyH.nil
  simp only [List.getElem_toArray, List.getElem_cons_zero, List.getElem_cons_succ]
  go_simp
  go_at_call 14
  obtain ⟨h_0, h_1, h_2, h_3, h_4, h_5, h_6, h_7, h_8, h_9, h_10, h_11, h_B⟩ := hHeld
  refine (same_same r c _ _ zs (by omega) _ (HY8.out.later h_B) (V8.out.later h_B)).mono ?_
  rintro e w_k3 ⟨rfl, k3⟩
  have hb3 := Lib.hid (below_step h_B k3)
  go_wp2_with fail
  refine hK.out _ _ ⟨cell_step k3 h_0, cell_step k3 h_1, cell_step k3 h_2, cell_step k3 h_3, cell_step k3 h_4, cell_step k3 h_5, cell_step k3 h_6, cell_step k3 h_7, cell_step k3 h_8, cell_step k3 h_9, cell_step k3 h_10, cell_step k3 h_11, below_step h_B k3⟩ (fun hHeld => ?_)
  clear hK K h_0 h_1 h_2 h_3 h_4 h_5 h_6 h_7 h_8 h_9 h_10 h_11 h_B
  try simp only [Act.put, List.setIfInBounds_toArray, List.set_cons_zero, List.set_cons_succ, List.getElem_toArray, List.getElem_cons_zero, List.getElem_cons_succ]
  refine wpAnyH_take (i := 14) (v := ?v12) rfl (by kernel_rfl) (by kernel_rfl) (by kernel_rfl) (fun _ _ _ h => h) (Or.inl ⟨by rfl, ?hy12⟩) (by assumption) ?rest12
  case hy12 => (intro w hSw; (try dsimp only at hSw); go_simp; (first | done | with_reducible rfl))
  simp only [Act.put, List.setIfInBounds_toArray, List.set_cons_zero, List.set_cons_succ, List.getElem_toArray, List.getElem_cons_zero, List.getElem_cons_succ]
  refine wpAnyH_take (i := 15) (v := ?v13) rfl (by kernel_rfl) (by kernel_rfl) (by kernel_rfl) (fun _ _ _ h => h) (Or.inl ⟨by rfl, ?hy13⟩) (by assumption) ?rest13
  case hy13 => (intro w hSw; (try dsimp only at hSw); go_simp; (first | done | with_reducible rfl))
  simp only [Act.put, List.setIfInBounds_toArray, List.set_cons_zero, List.set_cons_succ, List.getElem_toArray, List.getElem_cons_zero, List.getElem_cons_succ]
  refine wpAnyH_take (i := 16) (v := ?v14) rfl (by kernel_rfl) (by kernel_rfl) (by kernel_rfl) (fun _ _ _ h => h) (Or.inl ⟨by rfl, ?hy14⟩) (by assumption) ?rest14
  case hy14 => (intro w hSw; (try dsimp only at hSw); go_simp; (first | done | with_reducible rfl))
  simp only [Act.put, List.setIfInBounds_toArray, List.set_cons_zero, List.set_cons_succ, List.getElem_toArray, List.getElem_cons_zero, List.getElem_cons_succ]
  refine wpAnyH_take (i := 17) (v := ?v15) rfl (by kernel_rfl) (by kernel_rfl) (by kernel_rfl) (fun _ _ _ h => h) (Or.inl ⟨by rfl, ?hy15⟩) (by assumption) ?rest15
  case hy15 => (intro w hSw; (try dsimp only at hSw); go_simp; (first | done | with_reducible rfl))
  simp only [Act.put, List.setIfInBounds_toArray, List.set_cons_zero, List.set_cons_succ, List.getElem_toArray, List.getElem_cons_zero, List.getElem_cons_succ]
  refine wpAnyH_take (i := 18) (v := ?v16) rfl (by kernel_rfl) (by kernel_rfl) (by kernel_rfl) (fun _ _ _ h => h) (Or.inl ⟨by rfl, ?hy16⟩) (by assumption) ?rest16
  case hy16 => (intro w hSw; (try dsimp only at hSw); go_simp; (first | done | with_reducible rfl))
  simp only [Act.put, List.setIfInBounds_toArray, List.set_cons_zero, List.set_cons_succ, List.getElem_toArray, List.getElem_cons_zero, List.getElem_cons_succ]
  refine wpAnyH_take (i := 19) (v := ?v17) rfl (by kernel_rfl) (by kernel_rfl) (by kernel_rfl) (fun _ _ _ h => h) (Or.inl ⟨by rfl, ?hy17⟩) (by assumption) ?rest17
  case hy17 => (intro w hSw; (try dsimp only at hSw); go_simp; (first | done | with_reducible rfl))
  simp only [Act.put, List.setIfInBounds_toArray, List.set_cons_zero, List.set_cons_succ, List.getElem_toArray, List.getElem_cons_zero, List.getElem_cons_succ]
  refine wpAnyH_take (i := 21) (v := ?v18) rfl (by kernel_rfl) (by kernel_rfl) (by kernel_rfl) (fun _ _ _ h => h) (Or.inl ⟨by rfl, ?hy18⟩) (by assumption) ?rest18
  case hy18 => (intro w hSw; (try dsimp only at hSw); go_simp; (first | done | with_reducible rfl))
  simp only [Act.put, List.setIfInBounds_toArray, List.set_cons_zero, List.set_cons_succ, List.getElem_toArray, List.getElem_cons_zero, List.getElem_cons_succ]
  refine wpAnyH_take (i := 22) (v := ?v19) rfl (by kernel_rfl) (by kernel_rfl) (by kernel_rfl) (fun _ _ _ h => h) (Or.inl ⟨by rfl, ?hy19⟩) (by assumption) ?rest19
  case hy19 => (intro w hSw; (try dsimp only at hSw); go_simp; (first | done | with_reducible rfl))
  simp only [Act.put, List.setIfInBounds_toArray, List.set_cons_zero, List.set_cons_succ, List.getElem_toArray, List.getElem_cons_zero, List.getElem_cons_succ]
  refine wpAnyH_take (i := 23) (v := ?v20) rfl (by kernel_rfl) (by kernel_rfl) (by kernel_rfl) (fun _ _ _ h => h) (Or.inl ⟨by rfl, ?hy20⟩) (by assumption) ?rest20
  case hy20 => (intro w hSw; (try dsimp only at hSw); go_simp; (first | done | with_reducible rfl))
  simp only [Act.put, List.setIfInBounds_toArray, List.set_cons_zero, List.set_cons_succ, List.getElem_toArray, List.getElem_cons_zero, List.getElem_cons_succ]
  refine wpAnyH_ready (rs := [20]) (by kernel_rfl) (by simp) ?_
  refine AllReadyH.cons rfl (fun K hK => ?_) AllReadyH.nil
  simp only [List.getElem_toArray, List.getElem_cons_zero, List.getElem_cons_succ]
  go_simp
  go_at_call 16
  obtain ⟨h_0, h_1, h_2, h_3, h_4, h_5, h_6, h_7, h_8, h_9, h_10, h_11, h_B⟩ := hHeld
  refine (HAT.out _ (V8.out.later h_B)).mono ?_
  rintro e w_k4 ⟨rfl, k4⟩
  have hb4 := Lib.hid (below_step h_B k4)
  go_wp2_with fail
  refine hK.out _ _ ⟨cell_step k4 h_0, cell_step k4 h_1, cell_step k4 h_2, cell_step k4 h_3, cell_step k4 h_4, cell_step k4 h_5, cell_step k4 h_6, cell_step k4 h_7, cell_step k4 h_8, cell_step k4 h_9, cell_step k4 h_10, cell_step k4 h_11, below_step h_B k4⟩ (fun hHeld => ?_)
  clear hK K h_0 h_1 h_2 h_3 h_4 h_5 h_6 h_7 h_8 h_9 h_10 h_11 h_B
  try simp only [Act.put, List.setIfInBounds_toArray, List.set_cons_zero, List.set_cons_succ, List.getElem_toArray, List.getElem_cons_zero, List.getElem_cons_succ]
  refine wpAnyH_ready (rs := [24]) (by kernel_rfl) (by simp) ?_
  refine AllReadyH.cons rfl (fun K hK => ?_) AllReadyH.nil
  simp only [List.getElem_toArray, List.getElem_cons_zero, List.getElem_cons_succ]
  go_simp
  go_at_call 17
  obtain ⟨h_0, h_1, h_2, h_3, h_4, h_5, h_6, h_7, h_8, h_9, h_10, h_11, h_B⟩ := hHeld
  refine (HRA.out _ (V8.out.later h_B)).mono ?_
  rintro e w_k5 ⟨rfl, k5⟩
  have hb5 := Lib.hid (below_step h_B k5)
  go_wp2_with fail
  refine hK.out _ _ ⟨cell_step k5 h_0, cell_step k5 h_1, cell_step k5 h_2, cell_step k5 h_3, cell_step k5 h_4, cell_step k5 h_5, cell_step k5 h_6, cell_step k5 h_7, cell_step k5 h_8, cell_step k5 h_9, cell_step k5 h_10, cell_step k5 h_11, below_step h_B k5⟩ (fun hHeld => ?_)
  clear hK K h_0 h_1 h_2 h_3 h_4 h_5 h_6 h_7 h_8 h_9 h_10 h_11 h_B
  try simp only [Act.put, List.setIfInBounds_toArray, List.set_cons_zero, List.set_cons_succ, List.getElem_toArray, List.getElem_cons_zero, List.getElem_cons_succ]
  refine wpAnyH_take (i := 25) (v := ?v21) rfl (by kernel_rfl) (by kernel_rfl) (by kernel_rfl) (fun _ _ _ h => h) (Or.inl ⟨by rfl, ?hy21⟩) (by assumption) ?rest21
  case hy21 => (intro w hSw; (try dsimp only at hSw); go_simp; (first | done | with_reducible rfl))
  simp only [Act.put, List.setIfInBounds_toArray, List.set_cons_zero, List.set_cons_succ, List.getElem_toArray, List.getElem_cons_zero, List.getElem_cons_succ]
  refine wpAnyH_take (i := 26) (v := ?v22) rfl (by kernel_rfl) (by kernel_rfl) (by kernel_rfl) (fun _ _ _ h => h) (Or.inl ⟨by rfl, ?hy22⟩) (by assumption) ?rest22
  case hy22 => (intro w hSw; (try dsimp only at hSw); go_simp; (first | done | with_reducible rfl))
  simp only [Act.put, List.setIfInBounds_toArray, List.set_cons_zero, List.set_cons_succ, List.getElem_toArray, List.getElem_cons_zero, List.getElem_cons_succ]
  refine wpAnyH_done (by kernel_rfl) ?_ _
  obtain ⟨m0, m1, m2, _, _, _, _, _, _, _, _, _, h_B⟩ := hHeld
  have B9 := Lib.hid (below_step B8.out h_B)
  clear hb1 hb2 hb3 hb4 hb5 h_B M8 X8 Y8 Z8 HY8
  rcases (show 50 < r ∨ ¬ 50 < r ∧ 50 < c ∨ ¬ 50 < r ∧ ¬ 50 < c by omega) with h50 | h50 | h50
  · go_wp2_with fail
    refine (alive7_any _).mono ?_
    rintro e w9 ⟨rfl, b9⟩
    go_wp2_with fail
    go_ret
    exact ⟨rfl, below_step B9.out b9⟩
  · obtain ⟨h51, h52⟩ := h50
    go_wp2_with fail
    refine (alive7_any _).mono ?_
    rintro e w9 ⟨rfl, b9⟩
    go_wp2_with fail
    go_ret
    exact ⟨rfl, below_step B9.out b9⟩
  obtain ⟨h51, h52⟩ := h50
  go_wp2_with fail
  refine wp_region_held_drew (S := fun w' => w'.cell? ⟨w.heap.size, 0, none⟩ = some (.int .i64 r) ∧ w'.cell? ⟨w.heap.size, 1, none⟩ = some (.int .i64 c) ∧ w'.cell? ⟨w.heap.size, 2, none⟩ = some (.slice a zs.length cap) ∧ Below w_k5.heap.size w_k5 w') (by kernel_rfl) ?_ (fun hHeld => ?_)
  · exact ⟨m0, m1, m2, (Below.refl _ _).drew⟩
  refine wpAnyH_ready (rs := [0]) (by kernel_rfl) (by simp) ?_
  refine AllReadyH.cons rfl (fun K hK => ?_) AllReadyH.nil
  simp only [List.getElem_toArray, List.getElem_cons_zero]
  go_simp
  go_at_call 9
  obtain ⟨h_0, h_1, h_2, h_B⟩ := hHeld
  refine (alive7_any _).mono ?_
  rintro e w_k6 ⟨rfl, k6⟩
  have hb6 := Lib.hid (below_step h_B k6)
  go_wp2_with fail
  refine hK.out _ _ ⟨cell_step k6 h_0, cell_step k6 h_1, cell_step k6 h_2, below_step h_B k6⟩ (fun hHeld => ?_)
  clear hK K h_0 h_1 h_2 h_B
  try simp only [Act.put, List.setIfInBounds_toArray, List.set_cons_zero, List.set_cons_succ, List.getElem_toArray, List.getElem_cons_zero, List.getElem_cons_succ]
  refine wpAnyH_take (i := 1) (v := ?v23) rfl (by kernel_rfl) (by kernel_rfl) (by kernel_rfl) (fun _ _ _ h => h) (Or.inl ⟨by rfl, ?hy23⟩) (by assumption) ?rest23
  case hy23 => (intro w hSw; (try dsimp only at hSw); go_simp; (first | done | with_reducible rfl))
  simp only [Act.put, List.setIfInBounds_toArray, List.set_cons_zero, List.set_cons_succ, List.getElem_toArray, List.getElem_cons_zero, List.getElem_cons_succ]
  refine wpAnyH_take (i := 2) (v := ?v24) rfl (by kernel_rfl) (by kernel_rfl) (by kernel_rfl) (fun _ _ _ h => h) (Or.inl ⟨by rfl, ?hy24⟩) (by assumption) ?rest24
  case hy24 => (intro w hSw; (try dsimp only at hSw); go_simp; (first | done | with_reducible rfl))
  simp only [Act.put, List.setIfInBounds_toArray, List.set_cons_zero, List.set_cons_succ, List.getElem_toArray, List.getElem_cons_zero, List.getElem_cons_succ]
  refine wpAnyH_take (i := 3) (v := ?v25) rfl (by kernel_rfl) (by kernel_rfl) (by kernel_rfl) (fun _ _ _ h => h) (Or.inl ⟨by rfl, ?hy25⟩) (by assumption) ?rest25
  case hy25 => (intro w hSw; (try dsimp only at hSw); go_simp; (first | done | with_reducible rfl))
  simp only [Act.put, List.setIfInBounds_toArray, List.set_cons_zero, List.set_cons_succ, List.getElem_toArray, List.getElem_cons_zero, List.getElem_cons_succ]
  refine wpAnyH_take (i := 4) (v := ?v26) rfl (by kernel_rfl) (by kernel_rfl) (by kernel_rfl) (fun _ _ _ h => h) (Or.inl ⟨by rfl, ?hy26⟩) (by assumption) ?rest26
  case hy26 => (intro w hSw; (try dsimp only at hSw); go_simp; (first | done | with_reducible rfl))
  simp only [Act.put, List.setIfInBounds_toArray, List.set_cons_zero, List.set_cons_succ, List.getElem_toArray, List.getElem_cons_zero, List.getElem_cons_succ]
  refine wpAnyH_take (i := 5) (v := ?v27) rfl (by kernel_rfl) (by kernel_rfl) (by kernel_rfl) (fun _ _ _ h => h) (Or.inl ⟨by rfl, ?hy27⟩) (by assumption) ?rest27
  case hy27 => (intro w hSw; (try dsimp only at hSw); go_simp; (first | done | with_reducible rfl))
  simp only [Act.put, List.setIfInBounds_toArray, List.set_cons_zero, List.set_cons_succ, List.getElem_toArray, List.getElem_cons_zero, List.getElem_cons_succ]
  refine wpAnyH_take (i := 8) (v := ?v28) rfl (by kernel_rfl) (by kernel_rfl) (by kernel_rfl) (fun _ _ _ h => h) (Or.inl ⟨by rfl, ?hy28⟩) (by assumption) ?rest28
  case hy28 => (intro w hSw; (try dsimp only at hSw); go_simp; (first | done | with_reducible rfl))
  simp only [Act.put, List.setIfInBounds_toArray, List.set_cons_zero, List.set_cons_succ, List.getElem_toArray, List.getElem_cons_zero, List.getElem_cons_succ]
  refine wpAnyH_take (i := 9) (v := ?v29) rfl (by kernel_rfl) (by kernel_rfl) (by kernel_rfl) (fun _ _ _ h => h) (Or.inl ⟨by rfl, ?hy29⟩) (by assumption) ?rest29
  case hy29 => (intro w hSw; (try dsimp only at hSw); go_simp; (first | done | with_reducible rfl))
  simp only [Act.put, List.setIfInBounds_toArray, List.set_cons_zero, List.set_cons_succ, List.getElem_toArray, List.getElem_cons_zero, List.getElem_cons_succ]
  refine wpAnyH_take (i := 10) (v := ?v30) rfl (by kernel_rfl) (by kernel_rfl) (by kernel_rfl) (fun _ _ _ h => h) (Or.inl ⟨by rfl, ?hy30⟩) (by assumption) ?rest30
  case hy30 => (intro w hSw; (try dsimp only at hSw); go_simp; (first | done | with_reducible rfl))
  simp only [Act.put, List.setIfInBounds_toArray, List.set_cons_zero, List.set_cons_succ, List.getElem_toArray, List.getElem_cons_zero, List.getElem_cons_succ]
  refine wpAnyH_take (i := 11) (v := ?v31) rfl (by kernel_rfl) (by kernel_rfl) (by kernel_rfl) (fun _ _ _ h => h) (Or.inl ⟨by rfl, ?hy31⟩) (by assumption) ?rest31
  case hy31 => (intro w hSw; (try dsimp only at hSw); go_simp; (first | done | with_reducible rfl))
  simp only [Act.put, List.setIfInBounds_toArray, List.set_cons_zero, List.set_cons_succ, List.getElem_toArray, List.getElem_cons_zero, List.getElem_cons_succ]
  refine wpAnyH_ready (rs := [6]) (by kernel_rfl) (by simp) ?_
  refine AllReadyH.cons rfl (fun K hK => ?_) AllReadyH.nil
  simp only [List.getElem_toArray, List.getElem_cons_zero, List.getElem_cons_succ]
  go_simp
  go_at_call 18
  obtain ⟨h_0, h_1, h_2, h_B⟩ := hHeld
  refine (HN.out _).mono ?_
  rintro e w_k7 ⟨v1, rfl, hv1, k7⟩
  obtain ⟨an, cn, rfl⟩ := hv1.value
  have HW1 := Lib.hid hv1
  clear hv1
  go_wp2_with fail
  refine hK.out _ _ ⟨cell_step k7 h_0, cell_step k7 h_1, cell_step k7 h_2, below_step h_B k7⟩ (fun hHeld => ?_)
  clear hK K h_0 h_1 h_2 h_B
  try simp only [Act.put, List.setIfInBounds_toArray, List.set_cons_zero, List.set_cons_succ, List.getElem_toArray, List.getElem_cons_zero, List.getElem_cons_succ]
  refine wpAnyH_ready (rs := [7]) (by kernel_rfl) (by simp) ?_
  refine AllReadyH.cons rfl (fun K hK => ?_) AllReadyH.nil
  simp only [List.getElem_toArray, List.getElem_cons_zero, List.getElem_cons_succ]
  go_simp
  go_at_call 15
  obtain ⟨h_0, h_1, h_2, h_B⟩ := hHeld
  refine (back_any nr nc (.slice an nz.length cn) ⟨_, _, _, rfl⟩ _).mono ?_
  rintro e w_k8 ⟨rfl, k8⟩
  have HW2 := Lib.hid (HW1.out.later k8)
  go_wp2_with fail
  refine hK.out _ _ ⟨cell_step k8 h_0, cell_step k8 h_1, cell_step k8 h_2, below_step h_B k8⟩ (fun hHeld => ?_)
  clear hK K h_0 h_1 h_2 h_B
  try simp only [Act.put, List.setIfInBounds_toArray, List.set_cons_zero, List.set_cons_succ, List.getElem_toArray, List.getElem_cons_zero, List.getElem_cons_succ]
  refine wpAnyH_ready (rs := [12]) (by kernel_rfl) (by simp) ?_
  refine AllReadyH.cons rfl (fun K hK => ?_) AllReadyH.nil
  simp only [List.getElem_toArray, List.getElem_cons_zero, List.getElem_cons_succ]
  go_simp
  go_at_call 19
  obtain ⟨h_0, h_1, h_2, h_B⟩ := hHeld
  refine (HRN.out _).mono ?_
  rintro e w_k9 ⟨v2, rfl, hv2, k9⟩
  obtain ⟨am, cm, rfl⟩ := hv2.value
  have HW3 := Lib.hid (HW2.out.later k9)
  have HU3 := Lib.hid hv2
  clear hv2
  go_wp2_with fail
  refine hK.out _ _ ⟨cell_step k9 h_0, cell_step k9 h_1, cell_step k9 h_2, below_step h_B k9⟩ (fun hHeld => ?_)
  clear hK K h_0 h_1 h_2 h_B
  try simp only [Act.put, List.setIfInBounds_toArray, List.set_cons_zero, List.set_cons_succ, List.getElem_toArray, List.getElem_cons_zero, List.getElem_cons_succ]
  refine wpAnyH_ready (rs := [13]) (by kernel_rfl) (by simp) ?_
  refine AllReadyH.cons rfl (fun K hK => ?_) AllReadyH.nil
  simp only [List.getElem_toArray, List.getElem_cons_zero, List.getElem_cons_succ]
  go_simp
  go_at_call 14
  obtain ⟨h_0, h_1, h_2, h_B⟩ := hHeld
  refine (same_same nr nc _ _ nz HNZ.out _ HW3.out HU3.out).mono ?_
  rintro e w_k10 ⟨rfl, k10⟩
  have hb10 := Lib.hid (below_step h_B k10)
  go_wp2_with fail
  refine hK.out _ _ ⟨cell_step k10 h_0, cell_step k10 h_1, cell_step k10 h_2, below_step h_B k10⟩ (fun hHeld => ?_)
  clear hK K h_0 h_1 h_2 h_B
  try simp only [Act.put, List.setIfInBounds_toArray, List.set_cons_zero, List.set_cons_succ, List.getElem_toArray, List.getElem_cons_zero, List.getElem_cons_succ]
  refine wpAnyH_take (i := 14) (v := ?v32) rfl (by kernel_rfl) (by kernel_rfl) (by kernel_rfl) (fun _ _ _ h => h) (Or.inl ⟨by rfl, ?hy32⟩) (by assumption) ?rest32
  case hy32 => (intro w hSw; (try dsimp only at hSw); go_simp; (first | done | with_reducible rfl))
  simp only [Act.put, List.setIfInBounds_toArray, List.set_cons_zero, List.set_cons_succ, List.getElem_toArray, List.getElem_cons_zero, List.getElem_cons_succ]
  refine wpAnyH_take (i := 15) (v := ?v33) rfl (by kernel_rfl) (by kernel_rfl) (by kernel_rfl) (fun _ _ _ h => h) (Or.inl ⟨by rfl, ?hy33⟩) (by assumption) ?rest33
  case hy33 => (intro w hSw; (try dsimp only at hSw); go_simp; (first | done | with_reducible rfl))
  simp only [Act.put, List.setIfInBounds_toArray, List.set_cons_zero, List.set_cons_succ, List.getElem_toArray, List.getElem_cons_zero, List.getElem_cons_succ]
  refine wpAnyH_done (by kernel_rfl) ?_ _
  go_wp2_with fail
  go_ret
  exact ⟨rfl, below_step B9.out hb10.out⟩
set_option maxHeartbeats 8000000 in
theorem walk_makes_no (r c i j : Int) (hrb : -9223372036854775808 ≤ r ∧ r ≤ 9223372036854775807) (hcb : -9223372036854775808 ≤ c ∧ c ≤ 9223372036854775807) (v : Value) (zs : List Int) (w : World) (hv : IntsW .i64 w.heap.size w v zs) (h6 : zs.length ≤ 600) (hr : rightB r c zs.length = false) :
    Calls Try.prog 3 #[.agg #[.int .i64 r, .int .i64 c, v], .int .i64 i, .int .i64 j] w fun e w' => e = .returned (.bool true) ∧ Below w.heap.size w w' := by
  obtain ⟨a, cap, rfl⟩ := hv.value
  have b0 := (Below.refl w.heap.size w).alloc (Nat.le_refl _) (.cells #[.int .i64 r, .int .i64 c, .slice a zs.length cap] 24)
  have m := Is3.new w (.int .i64 r) (.int .i64 c) (.slice a zs.length cap) 24
  have hs0 : (w.alloc (.cells #[.int .i64 r, .int .i64 c, .slice a zs.length cap] 24)).heap.size = w.heap.size + 1 := by simp
  have g : decide (zs.length ≤ 600) = true := by simpa using h6
  have HF := Lib.hid (fun W => few_any r c a zs.length cap W)
  have HMR := Lib.hid (fun W => mright_any r c a zs.length cap W)
  have HRR := Lib.hid (fun W => refRight_any r c a zs.length cap W)
  have HOF := Lib.hid (fun W => of_mat_no r c (.slice a zs.length cap) zs (by omega) hr W)
  have HAT := Lib.hid (fun W => at_any r c (.slice a zs.length cap) zs i j (by omega) W)
  have HRA := Lib.hid (fun W => refAt_any r c (.slice a zs.length cap) zs i j (by omega) W)
  rw [g] at HF
  rw [hr] at HMR HRR
  have HN := Lib.hid (fun W => (new_mat_any r c hrb hcb W).mono fun _ _ h => made_new h)
  have HRN := Lib.hid (fun W => (refNew_any r c hrb hcb W).mono fun _ _ h => made_new h)
  have HNZ := Lib.hid (newZ_length r c)
  have HV := Lib.hid (hv.later b0)
  have B0 := Lib.hid b0
  have M0 := Lib.hid m
  generalize atM r c zs i j = at_ at *
  generalize newR r c = nr at *
  generalize newC r c = nc at *
  generalize newZ r c = nz at *
  clear hv g hr b0 m hrb hcb
  go_enter Try.func3, Try.ntmps3
  go_upto_region 1 with fail
  generalize w.alloc (.cells #[.int .i64 r, .int .i64 c, .slice a zs.length cap] 24) = W0 at *
  obtain ⟨m0, m1, m2⟩ := M0.out
  go_wp2_with fail
  refine (HF.out _).mono ?_
  rintro e w1 ⟨rfl, b1⟩
  have B1 := Lib.hid (below_step B0.out b1)
  have M1 := Lib.hid (M0.out.later b1)
  have V1 := Lib.hid (HV.out.later b1)
  clear b1 m0 m1 m2 HF
  obtain ⟨m0, m1, m2⟩ := M1.out
  go_wp2_with fail
  refine (given_any r c (.slice a zs.length cap) ⟨_, _, _, rfl⟩ _).mono ?_
  rintro e w2 ⟨rfl, b2⟩
  have X2 := Lib.hid (Is3.new w2 (.int .i64 r) (.int .i64 c) (.slice a zs.length cap) 29)
  have b3 := (Below.refl w2.heap.size w2).alloc (Nat.le_refl _) (.cells #[.int .i64 r, .int .i64 c, .slice a zs.length cap] 29)
  have B3 := Lib.hid (below_step (below_step B1.out b2) b3)
  have M3 := Lib.hid ((M1.out.later b2).later b3)
  have V3 := Lib.hid ((V1.out.later b2).later b3)
  clear b2 b3 m0 m1 m2
  go_upto_region 4 with fail
  generalize w2.alloc (.cells #[.int .i64 r, .int .i64 c, .slice a zs.length cap] 29) = W3 at *
  generalize w2.heap.size = X at *
  obtain ⟨m0, m1, m2⟩ := M3.out
  go_wp2_with fail
  refine (HOF.out _ V3.out).mono ?_
  rintro e w4 ⟨y, rfl, hy, b4⟩
  obtain ⟨ay, cy, rfl⟩ := hy.value
  have Y5 := Lib.hid (Is3.new w4 (.int .i64 0) (.int .i64 0) (.slice ay ([] : List Int).length cy) 29)
  have b5 := (Below.refl w4.heap.size w4).alloc (Nat.le_refl _) (.cells #[.int .i64 0, .int .i64 0, .slice ay ([] : List Int).length cy] 29)
  have B5 := Lib.hid (below_step (below_step B3.out b4) b5)
  have M5 := Lib.hid ((M3.out.later b4).later b5)
  have X5 := Lib.hid ((X2.out.later b4).later b5)
  have V5 := Lib.hid ((V3.out.later b4).later b5)
  have HY5 := Lib.hid (hy.later b5)
  clear b4 b5 m0 m1 m2 hy
  go_upto_region 5 with fail
  generalize w4.alloc (.cells #[.int .i64 0, .int .i64 0, .slice ay ([] : List Int).length cy] 29) = W5 at *
  generalize w4.heap.size = Y at *
  obtain ⟨m0, m1, m2⟩ := M5.out
  go_wp2_with fail
  refine (HRR.out _).mono ?_
  rintro e w6 ⟨rfl, b6⟩
  have C6 := Lib.hid (Cell3.new w6 (.int .i64 0) (.int .i64 0) (.slice none 0 0) 24)
  have Z6 := Lib.hid (Is3.new w6 (.int .i64 0) (.int .i64 0) (.slice none 0 0) 24)
  have b7 := Lib.hid ((Below.refl w6.heap.size w6).alloc (Nat.le_refl _) (.cells #[.int .i64 0, .int .i64 0, .slice none 0 0] 24))
  have M6 := Lib.hid (M5.out.later b6)
  have X6 := Lib.hid (X5.out.later b6)
  have Y6 := Lib.hid (Y5.out.later b6)
  have V6 := Lib.hid (V5.out.later b6)
  have HY6 := Lib.hid (HY5.out.later b6)
  have B6 := Lib.hid (below_step B5.out b6)
  clear b6 m0 m1 m2
  go_upto_region 7 with fail
  generalize w6.alloc (.cells #[.int .i64 0, .int .i64 0, .slice none 0 0] 24) = W7 at *
  obtain ⟨m0, m1, m2⟩ := M6.out.later b7.out
  go_upto_region 9 with fail
  have b8 := b7
  have Z8 := Z6
  clear m0 m1 m2 Z6
  generalize W7 = W8 at *
  have M8 := Lib.hid (M6.out.later b8.out)
  have X8 := Lib.hid (X6.out.later b8.out)
  have Y8 := Lib.hid (Y6.out.later b8.out)
  have V8 := Lib.hid (V6.out.later b8.out)
  have HY8 := Lib.hid (HY6.out.later b8.out)
  have B8 := Lib.hid (below_step B6.out b8.out)
  clear M6 X6 Y6 V6 HY6 B6 b8 b7
  generalize w6.heap.size = ZZ at *
  go_wp2_with fail
  refine wp_region_held_drew (S := fun w' => w'.cell? ⟨w.heap.size, 0, none⟩ = some (.int .i64 r) ∧ w'.cell? ⟨w.heap.size, 1, none⟩ = some (.int .i64 c) ∧ w'.cell? ⟨w.heap.size, 2, none⟩ = some (.slice a zs.length cap) ∧ w'.cell? ⟨X, 0, none⟩ = some (.int .i64 r) ∧ w'.cell? ⟨X, 1, none⟩ = some (.int .i64 c) ∧ w'.cell? ⟨X, 2, none⟩ = some (.slice a zs.length cap) ∧ w'.cell? ⟨Y, 0, none⟩ = some (.int .i64 0) ∧ w'.cell? ⟨Y, 1, none⟩ = some (.int .i64 0) ∧ w'.cell? ⟨Y, 2, none⟩ = some (.slice ay ([] : List Int).length cy) ∧ w'.cell? ⟨ZZ, 0, none⟩ = some (.int .i64 0) ∧ w'.cell? ⟨ZZ, 1, none⟩ = some (.int .i64 0) ∧ w'.cell? ⟨ZZ, 2, none⟩ = some (.slice none 0 0) ∧ Below W8.heap.size W8 w') (by kernel_rfl) ?_ (fun hHeld => ?_)
  · exact ⟨M8.out.c0, M8.out.c1, M8.out.c2, X8.out.c0, X8.out.c1, X8.out.c2, Y8.out.c0, Y8.out.c1, Y8.out.c2, Z8.out.c0, Z8.out.c1, Z8.out.c2, (Below.refl _ _).drew⟩
  refine wpAnyH_take (i := 0) (v := ?v34) rfl (by kernel_rfl) (by kernel_rfl) (by kernel_rfl) (fun _ _ _ h => h) (Or.inl ⟨by rfl, ?hy34⟩) (by assumption) ?rest34
  case hy34 => (intro w hSw; (try dsimp only at hSw); go_simp; (first | done | with_reducible rfl))
  simp only [Act.put, List.setIfInBounds_toArray, List.set_cons_zero, List.set_cons_succ, List.getElem_toArray, List.getElem_cons_zero]
  refine wpAnyH_take (i := 2) (v := ?v35) rfl (by kernel_rfl) (by kernel_rfl) (by kernel_rfl) (fun _ _ _ h => h) (Or.inl ⟨by rfl, ?hy35⟩) (by assumption) ?rest35
  case hy35 => (intro w hSw; (try dsimp only at hSw); go_simp; (first | done | with_reducible rfl))
  simp only [Act.put, List.setIfInBounds_toArray, List.set_cons_zero, List.set_cons_succ, List.getElem_toArray, List.getElem_cons_zero, List.getElem_cons_succ]
  refine wpAnyH_ready (rs := [1]) (by kernel_rfl) (by simp) ?_
  refine AllReadyH.cons rfl (fun K hK => ?_) AllReadyH.nil
  simp only [List.getElem_toArray, List.getElem_cons_zero, List.getElem_cons_succ]
  go_simp
  go_at_call 13
  obtain ⟨h_0, h_1, h_2, h_3, h_4, h_5, h_6, h_7, h_8, h_9, h_10, h_11, h_B⟩ := hHeld
  refine (HMR.out _).mono ?_
  rintro e w_k1 ⟨rfl, k1⟩
  have hb1 := Lib.hid (below_step h_B k1)
  go_wp2_with fail
  refine hK.out _ _ ⟨cell_step k1 h_0, cell_step k1 h_1, cell_step k1 h_2, cell_step k1 h_3, cell_step k1 h_4, cell_step k1 h_5, cell_step k1 h_6, cell_step k1 h_7, cell_step k1 h_8, cell_step k1 h_9, cell_step k1 h_10, cell_step k1 h_11, below_step h_B k1⟩ (fun hHeld => ?_)
  clear hK K h_0 h_1 h_2 h_3 h_4 h_5 h_6 h_7 h_8 h_9 h_10 h_11 h_B
  try simp only [Act.put, List.setIfInBounds_toArray, List.set_cons_zero, List.set_cons_succ, List.getElem_toArray, List.getElem_cons_zero, List.getElem_cons_succ]
  refine wpAnyH_take (i := 3) (v := ?v36) rfl (by kernel_rfl) (by kernel_rfl) (by kernel_rfl) (fun _ _ _ h => h) (Or.inl ⟨by rfl, ?hy36⟩) (by assumption) ?rest36
  case hy36 => (intro w hSw; (try dsimp only at hSw); go_simp; (first | done | with_reducible rfl))
  simp only [Act.put, List.setIfInBounds_toArray, List.set_cons_zero, List.set_cons_succ, List.getElem_toArray, List.getElem_cons_zero, List.getElem_cons_succ]
  refine wpAnyH_take (i := 4) (v := ?v37) rfl (by kernel_rfl) (by kernel_rfl) (by kernel_rfl) (fun _ _ _ h => h) (Or.inl ⟨by rfl, ?hy37⟩) (by assumption) ?rest37
  case hy37 => (intro w hSw; (try dsimp only at hSw); go_simp; (first | done | with_reducible rfl))
  simp only [Act.put, List.setIfInBounds_toArray, List.set_cons_zero, List.set_cons_succ, List.getElem_toArray, List.getElem_cons_zero, List.getElem_cons_succ]
  refine wpAnyH_take (i := 5) (v := ?v38) rfl (by kernel_rfl) (by kernel_rfl) (by kernel_rfl) (fun _ _ _ h => h) (Or.inl ⟨by rfl, ?hy38⟩) (by assumption) ?rest38
  case hy38 => (intro w hSw; (try dsimp only at hSw); go_simp; (first | done | with_reducible rfl))
  simp only [Act.put, List.setIfInBounds_toArray, List.set_cons_zero, List.set_cons_succ, List.getElem_toArray, List.getElem_cons_zero, List.getElem_cons_succ]
  refine wpAnyH_take (i := 6) (v := ?v39) rfl (by kernel_rfl) (by kernel_rfl) (by kernel_rfl) (fun _ _ _ h => h) (Or.inl ⟨by rfl, ?hy39⟩) (by assumption) ?rest39
  case hy39 => (intro w hSw; (try dsimp only at hSw); go_simp; (first | done | with_reducible rfl))
  simp only [Act.put, List.setIfInBounds_toArray, List.set_cons_zero, List.set_cons_succ, List.getElem_toArray, List.getElem_cons_zero, List.getElem_cons_succ]
  refine wpAnyH_take (i := 7) (v := ?v40) rfl (by kernel_rfl) (by kernel_rfl) (by kernel_rfl) (fun _ _ _ h => h) (Or.inl ⟨by rfl, ?hy40⟩) (by assumption) ?rest40
  case hy40 => (intro w hSw; (try dsimp only at hSw); go_simp; (first | done | with_reducible rfl))
  simp only [Act.put, List.setIfInBounds_toArray, List.set_cons_zero, List.set_cons_succ, List.getElem_toArray, List.getElem_cons_zero, List.getElem_cons_succ]
  refine wpAnyH_take (i := 8) (v := ?v41) rfl (by kernel_rfl) (by kernel_rfl) (by kernel_rfl) (fun _ _ _ h => h) (Or.inl ⟨by rfl, ?hy41⟩) (by assumption) ?rest41
  case hy41 => (intro w hSw; (try dsimp only at hSw); go_simp; (first | done | with_reducible rfl))
  simp only [Act.put, List.setIfInBounds_toArray, List.set_cons_zero, List.set_cons_succ, List.getElem_toArray, List.getElem_cons_zero, List.getElem_cons_succ]
  refine wpAnyH_take (i := 9) (v := ?v42) rfl (by kernel_rfl) (by kernel_rfl) (by kernel_rfl) (fun _ _ _ h => h) (Or.inl ⟨by rfl, ?hy42⟩) (by assumption) ?rest42
  case hy42 => (intro w hSw; (try dsimp only at hSw); go_simp; (first | done | with_reducible rfl))
  simp only [Act.put, List.setIfInBounds_toArray, List.set_cons_zero, List.set_cons_succ, List.getElem_toArray, List.getElem_cons_zero, List.getElem_cons_succ]
  refine wpAnyH_take (i := 10) (v := ?v43) rfl (by kernel_rfl) (by kernel_rfl) (by kernel_rfl) (fun _ _ _ h => h) (Or.inl ⟨by rfl, ?hy43⟩) (by assumption) ?rest43
  case hy43 => (intro w hSw; (try dsimp only at hSw); go_simp; (first | done | with_reducible rfl))
  simp only [Act.put, List.setIfInBounds_toArray, List.set_cons_zero, List.set_cons_succ, List.getElem_toArray, List.getElem_cons_zero, List.getElem_cons_succ]
  refine wpAnyH_take (i := 12) (v := ?v44) rfl (by kernel_rfl) (by kernel_rfl) (by kernel_rfl) (fun _ _ _ h => h) (Or.inl ⟨by rfl, ?hy44⟩) (by assumption) ?rest44
  case hy44 => (intro w hSw; (try dsimp only at hSw); go_simp; (first | done | with_reducible rfl))
  simp only [Act.put, List.setIfInBounds_toArray, List.set_cons_zero, List.set_cons_succ, List.getElem_toArray, List.getElem_cons_zero, List.getElem_cons_succ]
  refine wpAnyH_ready (rs := [11]) (by kernel_rfl) (by simp) ?_
  refine AllReadyH.cons rfl (fun K hK => ?_) AllReadyH.nil
  simp only [List.getElem_toArray, List.getElem_cons_zero, List.getElem_cons_succ]
  go_simp
  go_at_call 15
  obtain ⟨h_0, h_1, h_2, h_3, h_4, h_5, h_6, h_7, h_8, h_9, h_10, h_11, h_B⟩ := hHeld
  refine (back_any 0 0 (.slice ay ([] : List Int).length cy) ⟨_, _, _, rfl⟩ _).mono ?_
  rintro e w_k2 ⟨rfl, k2⟩
  have hb2 := Lib.hid (below_step h_B k2)
  go_wp2_with fail
  refine hK.out _ _ ⟨cell_step k2 h_0, cell_step k2 h_1, cell_step k2 h_2, cell_step k2 h_3, cell_step k2 h_4, cell_step k2 h_5, cell_step k2 h_6, cell_step k2 h_7, cell_step k2 h_8, cell_step k2 h_9, cell_step k2 h_10, cell_step k2 h_11, below_step h_B k2⟩ (fun hHeld => ?_)
  clear hK K h_0 h_1 h_2 h_3 h_4 h_5 h_6 h_7 h_8 h_9 h_10 h_11 h_B
  try simp only [Act.put, List.setIfInBounds_toArray, List.set_cons_zero, List.set_cons_succ, List.getElem_toArray, List.getElem_cons_zero, List.getElem_cons_succ]
  refine wpAnyH_ready (rs := [13]) (by kernel_rfl) (by simp) ?_
  refine AllReadyH.cons rfl (fun K hK => ?_) AllReadyH.nil
  simp only [List.getElem_toArray, List.getElem_cons_zero, List.getElem_cons_succ]
  go_simp
  go_at_call 14
  obtain ⟨h_0, h_1, h_2, h_3, h_4, h_5, h_6, h_7, h_8, h_9, h_10, h_11, h_B⟩ := hHeld
  refine (same_same 0 0 _ _ ([] : List Int) (by simp) _ (HY8.out.later h_B) (.inr IntsAt.nil)).mono ?_
  rintro e w_k3 ⟨rfl, k3⟩
  have hb3 := Lib.hid (below_step h_B k3)
  go_wp2_with fail
  refine hK.out _ _ ⟨cell_step k3 h_0, cell_step k3 h_1, cell_step k3 h_2, cell_step k3 h_3, cell_step k3 h_4, cell_step k3 h_5, cell_step k3 h_6, cell_step k3 h_7, cell_step k3 h_8, cell_step k3 h_9, cell_step k3 h_10, cell_step k3 h_11, below_step h_B k3⟩ (fun hHeld => ?_)
  clear hK K h_0 h_1 h_2 h_3 h_4 h_5 h_6 h_7 h_8 h_9 h_10 h_11 h_B
  try simp only [Act.put, List.setIfInBounds_toArray, List.set_cons_zero, List.set_cons_succ, List.getElem_toArray, List.getElem_cons_zero, List.getElem_cons_succ]
  refine wpAnyH_take (i := 14) (v := ?v45) rfl (by kernel_rfl) (by kernel_rfl) (by kernel_rfl) (fun _ _ _ h => h) (Or.inl ⟨by rfl, ?hy45⟩) (by assumption) ?rest45
  case hy45 => (intro w hSw; (try dsimp only at hSw); go_simp; (first | done | with_reducible rfl))
  simp only [Act.put, List.setIfInBounds_toArray, List.set_cons_zero, List.set_cons_succ, List.getElem_toArray, List.getElem_cons_zero, List.getElem_cons_succ]
  refine wpAnyH_take (i := 15) (v := ?v46) rfl (by kernel_rfl) (by kernel_rfl) (by kernel_rfl) (fun _ _ _ h => h) (Or.inl ⟨by rfl, ?hy46⟩) (by assumption) ?rest46
  case hy46 => (intro w hSw; (try dsimp only at hSw); go_simp; (first | done | with_reducible rfl))
  simp only [Act.put, List.setIfInBounds_toArray, List.set_cons_zero, List.set_cons_succ, List.getElem_toArray, List.getElem_cons_zero, List.getElem_cons_succ]
  refine wpAnyH_take (i := 16) (v := ?v47) rfl (by kernel_rfl) (by kernel_rfl) (by kernel_rfl) (fun _ _ _ h => h) (Or.inl ⟨by rfl, ?hy47⟩) (by assumption) ?rest47
  case hy47 => (intro w hSw; (try dsimp only at hSw); go_simp; (first | done | with_reducible rfl))
  simp only [Act.put, List.setIfInBounds_toArray, List.set_cons_zero, List.set_cons_succ, List.getElem_toArray, List.getElem_cons_zero, List.getElem_cons_succ]
  refine wpAnyH_take (i := 17) (v := ?v48) rfl (by kernel_rfl) (by kernel_rfl) (by kernel_rfl) (fun _ _ _ h => h) (Or.inl ⟨by rfl, ?hy48⟩) (by assumption) ?rest48
  case hy48 => (intro w hSw; (try dsimp only at hSw); go_simp; (first | done | with_reducible rfl))
  simp only [Act.put, List.setIfInBounds_toArray, List.set_cons_zero, List.set_cons_succ, List.getElem_toArray, List.getElem_cons_zero, List.getElem_cons_succ]
  refine wpAnyH_take (i := 18) (v := ?v49) rfl (by kernel_rfl) (by kernel_rfl) (by kernel_rfl) (fun _ _ _ h => h) (Or.inl ⟨by rfl, ?hy49⟩) (by assumption) ?rest49
  case hy49 => (intro w hSw; (try dsimp only at hSw); go_simp; (first | done | with_reducible rfl))
  simp only [Act.put, List.setIfInBounds_toArray, List.set_cons_zero, List.set_cons_succ, List.getElem_toArray, List.getElem_cons_zero, List.getElem_cons_succ]
  refine wpAnyH_take (i := 19) (v := ?v50) rfl (by kernel_rfl) (by kernel_rfl) (by kernel_rfl) (fun _ _ _ h => h) (Or.inl ⟨by rfl, ?hy50⟩) (by assumption) ?rest50
  case hy50 => (intro w hSw; (try dsimp only at hSw); go_simp; (first | done | with_reducible rfl))
  simp only [Act.put, List.setIfInBounds_toArray, List.set_cons_zero, List.set_cons_succ, List.getElem_toArray, List.getElem_cons_zero, List.getElem_cons_succ]
  refine wpAnyH_take (i := 21) (v := ?v51) rfl (by kernel_rfl) (by kernel_rfl) (by kernel_rfl) (fun _ _ _ h => h) (Or.inl ⟨by rfl, ?hy51⟩) (by assumption) ?rest51
  case hy51 => (intro w hSw; (try dsimp only at hSw); go_simp; (first | done | with_reducible rfl))
  simp only [Act.put, List.setIfInBounds_toArray, List.set_cons_zero, List.set_cons_succ, List.getElem_toArray, List.getElem_cons_zero, List.getElem_cons_succ]
  refine wpAnyH_take (i := 22) (v := ?v52) rfl (by kernel_rfl) (by kernel_rfl) (by kernel_rfl) (fun _ _ _ h => h) (Or.inl ⟨by rfl, ?hy52⟩) (by assumption) ?rest52
  case hy52 => (intro w hSw; (try dsimp only at hSw); go_simp; (first | done | with_reducible rfl))
  simp only [Act.put, List.setIfInBounds_toArray, List.set_cons_zero, List.set_cons_succ, List.getElem_toArray, List.getElem_cons_zero, List.getElem_cons_succ]
  refine wpAnyH_take (i := 23) (v := ?v53) rfl (by kernel_rfl) (by kernel_rfl) (by kernel_rfl) (fun _ _ _ h => h) (Or.inl ⟨by rfl, ?hy53⟩) (by assumption) ?rest53
  case hy53 => (intro w hSw; (try dsimp only at hSw); go_simp; (first | done | with_reducible rfl))
  simp only [Act.put, List.setIfInBounds_toArray, List.set_cons_zero, List.set_cons_succ, List.getElem_toArray, List.getElem_cons_zero, List.getElem_cons_succ]
  refine wpAnyH_ready (rs := [20]) (by kernel_rfl) (by simp) ?_
  refine AllReadyH.cons rfl (fun K hK => ?_) AllReadyH.nil
  simp only [List.getElem_toArray, List.getElem_cons_zero, List.getElem_cons_succ]
  go_simp
  go_at_call 16
  obtain ⟨h_0, h_1, h_2, h_3, h_4, h_5, h_6, h_7, h_8, h_9, h_10, h_11, h_B⟩ := hHeld
  refine (HAT.out _ (V8.out.later h_B)).mono ?_
  rintro e w_k4 ⟨rfl, k4⟩
  have hb4 := Lib.hid (below_step h_B k4)
  go_wp2_with fail
  refine hK.out _ _ ⟨cell_step k4 h_0, cell_step k4 h_1, cell_step k4 h_2, cell_step k4 h_3, cell_step k4 h_4, cell_step k4 h_5, cell_step k4 h_6, cell_step k4 h_7, cell_step k4 h_8, cell_step k4 h_9, cell_step k4 h_10, cell_step k4 h_11, below_step h_B k4⟩ (fun hHeld => ?_)
  clear hK K h_0 h_1 h_2 h_3 h_4 h_5 h_6 h_7 h_8 h_9 h_10 h_11 h_B
  try simp only [Act.put, List.setIfInBounds_toArray, List.set_cons_zero, List.set_cons_succ, List.getElem_toArray, List.getElem_cons_zero, List.getElem_cons_succ]
  refine wpAnyH_ready (rs := [24]) (by kernel_rfl) (by simp) ?_
  refine AllReadyH.cons rfl (fun K hK => ?_) AllReadyH.nil
  simp only [List.getElem_toArray, List.getElem_cons_zero, List.getElem_cons_succ]
  go_simp
  go_at_call 17
  obtain ⟨h_0, h_1, h_2, h_3, h_4, h_5, h_6, h_7, h_8, h_9, h_10, h_11, h_B⟩ := hHeld
  refine (HRA.out _ (V8.out.later h_B)).mono ?_
  rintro e w_k5 ⟨rfl, k5⟩
  have hb5 := Lib.hid (below_step h_B k5)
  go_wp2_with fail
  refine hK.out _ _ ⟨cell_step k5 h_0, cell_step k5 h_1, cell_step k5 h_2, cell_step k5 h_3, cell_step k5 h_4, cell_step k5 h_5, cell_step k5 h_6, cell_step k5 h_7, cell_step k5 h_8, cell_step k5 h_9, cell_step k5 h_10, cell_step k5 h_11, below_step h_B k5⟩ (fun hHeld => ?_)
  clear hK K h_0 h_1 h_2 h_3 h_4 h_5 h_6 h_7 h_8 h_9 h_10 h_11 h_B
  try simp only [Act.put, List.setIfInBounds_toArray, List.set_cons_zero, List.set_cons_succ, List.getElem_toArray, List.getElem_cons_zero, List.getElem_cons_succ]
  refine wpAnyH_take (i := 25) (v := ?v54) rfl (by kernel_rfl) (by kernel_rfl) (by kernel_rfl) (fun _ _ _ h => h) (Or.inl ⟨by rfl, ?hy54⟩) (by assumption) ?rest54
  case hy54 => (intro w hSw; (try dsimp only at hSw); go_simp; (first | done | with_reducible rfl))
  simp only [Act.put, List.setIfInBounds_toArray, List.set_cons_zero, List.set_cons_succ, List.getElem_toArray, List.getElem_cons_zero, List.getElem_cons_succ]
  refine wpAnyH_take (i := 26) (v := ?v55) rfl (by kernel_rfl) (by kernel_rfl) (by kernel_rfl) (fun _ _ _ h => h) (Or.inl ⟨by rfl, ?hy55⟩) (by assumption) ?rest55
  case hy55 => (intro w hSw; (try dsimp only at hSw); go_simp; (first | done | with_reducible rfl))
  simp only [Act.put, List.setIfInBounds_toArray, List.set_cons_zero, List.set_cons_succ, List.getElem_toArray, List.getElem_cons_zero, List.getElem_cons_succ]
  refine wpAnyH_done (by kernel_rfl) ?_ _
  obtain ⟨m0, m1, m2, _, _, _, _, _, _, _, _, _, h_B⟩ := hHeld
  have B9 := Lib.hid (below_step B8.out h_B)
  clear hb1 hb2 hb3 hb4 hb5 h_B M8 X8 Y8 Z8 HY8
  rcases (show 50 < r ∨ ¬ 50 < r ∧ 50 < c ∨ ¬ 50 < r ∧ ¬ 50 < c by omega) with h50 | h50 | h50
  · go_wp2_with fail
    refine (alive7_any _).mono ?_
    rintro e w9 ⟨rfl, b9⟩
    go_wp2_with fail
    go_ret
    exact ⟨rfl, below_step B9.out b9⟩
  · obtain ⟨h51, h52⟩ := h50
    go_wp2_with fail
    refine (alive7_any _).mono ?_
    rintro e w9 ⟨rfl, b9⟩
    go_wp2_with fail
    go_ret
    exact ⟨rfl, below_step B9.out b9⟩
  obtain ⟨h51, h52⟩ := h50
  go_wp2_with fail
  refine wp_region_held_drew (S := fun w' => w'.cell? ⟨w.heap.size, 0, none⟩ = some (.int .i64 r) ∧ w'.cell? ⟨w.heap.size, 1, none⟩ = some (.int .i64 c) ∧ w'.cell? ⟨w.heap.size, 2, none⟩ = some (.slice a zs.length cap) ∧ Below w_k5.heap.size w_k5 w') (by kernel_rfl) ?_ (fun hHeld => ?_)
  · exact ⟨m0, m1, m2, (Below.refl _ _).drew⟩
  refine wpAnyH_ready (rs := [0]) (by kernel_rfl) (by simp) ?_
  refine AllReadyH.cons rfl (fun K hK => ?_) AllReadyH.nil
  simp only [List.getElem_toArray, List.getElem_cons_zero]
  go_simp
  go_at_call 9
  obtain ⟨h_0, h_1, h_2, h_B⟩ := hHeld
  refine (alive7_any _).mono ?_
  rintro e w_k6 ⟨rfl, k6⟩
  have hb6 := Lib.hid (below_step h_B k6)
  go_wp2_with fail
  refine hK.out _ _ ⟨cell_step k6 h_0, cell_step k6 h_1, cell_step k6 h_2, below_step h_B k6⟩ (fun hHeld => ?_)
  clear hK K h_0 h_1 h_2 h_B
  try simp only [Act.put, List.setIfInBounds_toArray, List.set_cons_zero, List.set_cons_succ, List.getElem_toArray, List.getElem_cons_zero, List.getElem_cons_succ]
  refine wpAnyH_take (i := 1) (v := ?v56) rfl (by kernel_rfl) (by kernel_rfl) (by kernel_rfl) (fun _ _ _ h => h) (Or.inl ⟨by rfl, ?hy56⟩) (by assumption) ?rest56
  case hy56 => (intro w hSw; (try dsimp only at hSw); go_simp; (first | done | with_reducible rfl))
  simp only [Act.put, List.setIfInBounds_toArray, List.set_cons_zero, List.set_cons_succ, List.getElem_toArray, List.getElem_cons_zero, List.getElem_cons_succ]
  refine wpAnyH_take (i := 2) (v := ?v57) rfl (by kernel_rfl) (by kernel_rfl) (by kernel_rfl) (fun _ _ _ h => h) (Or.inl ⟨by rfl, ?hy57⟩) (by assumption) ?rest57
  case hy57 => (intro w hSw; (try dsimp only at hSw); go_simp; (first | done | with_reducible rfl))
  simp only [Act.put, List.setIfInBounds_toArray, List.set_cons_zero, List.set_cons_succ, List.getElem_toArray, List.getElem_cons_zero, List.getElem_cons_succ]
  refine wpAnyH_take (i := 3) (v := ?v58) rfl (by kernel_rfl) (by kernel_rfl) (by kernel_rfl) (fun _ _ _ h => h) (Or.inl ⟨by rfl, ?hy58⟩) (by assumption) ?rest58
  case hy58 => (intro w hSw; (try dsimp only at hSw); go_simp; (first | done | with_reducible rfl))
  simp only [Act.put, List.setIfInBounds_toArray, List.set_cons_zero, List.set_cons_succ, List.getElem_toArray, List.getElem_cons_zero, List.getElem_cons_succ]
  refine wpAnyH_take (i := 4) (v := ?v59) rfl (by kernel_rfl) (by kernel_rfl) (by kernel_rfl) (fun _ _ _ h => h) (Or.inl ⟨by rfl, ?hy59⟩) (by assumption) ?rest59
  case hy59 => (intro w hSw; (try dsimp only at hSw); go_simp; (first | done | with_reducible rfl))
  simp only [Act.put, List.setIfInBounds_toArray, List.set_cons_zero, List.set_cons_succ, List.getElem_toArray, List.getElem_cons_zero, List.getElem_cons_succ]
  refine wpAnyH_take (i := 5) (v := ?v60) rfl (by kernel_rfl) (by kernel_rfl) (by kernel_rfl) (fun _ _ _ h => h) (Or.inl ⟨by rfl, ?hy60⟩) (by assumption) ?rest60
  case hy60 => (intro w hSw; (try dsimp only at hSw); go_simp; (first | done | with_reducible rfl))
  simp only [Act.put, List.setIfInBounds_toArray, List.set_cons_zero, List.set_cons_succ, List.getElem_toArray, List.getElem_cons_zero, List.getElem_cons_succ]
  refine wpAnyH_take (i := 8) (v := ?v61) rfl (by kernel_rfl) (by kernel_rfl) (by kernel_rfl) (fun _ _ _ h => h) (Or.inl ⟨by rfl, ?hy61⟩) (by assumption) ?rest61
  case hy61 => (intro w hSw; (try dsimp only at hSw); go_simp; (first | done | with_reducible rfl))
  simp only [Act.put, List.setIfInBounds_toArray, List.set_cons_zero, List.set_cons_succ, List.getElem_toArray, List.getElem_cons_zero, List.getElem_cons_succ]
  refine wpAnyH_take (i := 9) (v := ?v62) rfl (by kernel_rfl) (by kernel_rfl) (by kernel_rfl) (fun _ _ _ h => h) (Or.inl ⟨by rfl, ?hy62⟩) (by assumption) ?rest62
  case hy62 => (intro w hSw; (try dsimp only at hSw); go_simp; (first | done | with_reducible rfl))
  simp only [Act.put, List.setIfInBounds_toArray, List.set_cons_zero, List.set_cons_succ, List.getElem_toArray, List.getElem_cons_zero, List.getElem_cons_succ]
  refine wpAnyH_take (i := 10) (v := ?v63) rfl (by kernel_rfl) (by kernel_rfl) (by kernel_rfl) (fun _ _ _ h => h) (Or.inl ⟨by rfl, ?hy63⟩) (by assumption) ?rest63
  case hy63 => (intro w hSw; (try dsimp only at hSw); go_simp; (first | done | with_reducible rfl))
  simp only [Act.put, List.setIfInBounds_toArray, List.set_cons_zero, List.set_cons_succ, List.getElem_toArray, List.getElem_cons_zero, List.getElem_cons_succ]
  refine wpAnyH_take (i := 11) (v := ?v64) rfl (by kernel_rfl) (by kernel_rfl) (by kernel_rfl) (fun _ _ _ h => h) (Or.inl ⟨by rfl, ?hy64⟩) (by assumption) ?rest64
  case hy64 => (intro w hSw; (try dsimp only at hSw); go_simp; (first | done | with_reducible rfl))
  simp only [Act.put, List.setIfInBounds_toArray, List.set_cons_zero, List.set_cons_succ, List.getElem_toArray, List.getElem_cons_zero, List.getElem_cons_succ]
  refine wpAnyH_ready (rs := [6]) (by kernel_rfl) (by simp) ?_
  refine AllReadyH.cons rfl (fun K hK => ?_) AllReadyH.nil
  simp only [List.getElem_toArray, List.getElem_cons_zero, List.getElem_cons_succ]
  go_simp
  go_at_call 18
  obtain ⟨h_0, h_1, h_2, h_B⟩ := hHeld
  refine (HN.out _).mono ?_
  rintro e w_k7 ⟨v1, rfl, hv1, k7⟩
  obtain ⟨an, cn, rfl⟩ := hv1.value
  have HW1 := Lib.hid hv1
  clear hv1
  go_wp2_with fail
  refine hK.out _ _ ⟨cell_step k7 h_0, cell_step k7 h_1, cell_step k7 h_2, below_step h_B k7⟩ (fun hHeld => ?_)
  clear hK K h_0 h_1 h_2 h_B
  try simp only [Act.put, List.setIfInBounds_toArray, List.set_cons_zero, List.set_cons_succ, List.getElem_toArray, List.getElem_cons_zero, List.getElem_cons_succ]
  refine wpAnyH_ready (rs := [7]) (by kernel_rfl) (by simp) ?_
  refine AllReadyH.cons rfl (fun K hK => ?_) AllReadyH.nil
  simp only [List.getElem_toArray, List.getElem_cons_zero, List.getElem_cons_succ]
  go_simp
  go_at_call 15
  obtain ⟨h_0, h_1, h_2, h_B⟩ := hHeld
  refine (back_any nr nc (.slice an nz.length cn) ⟨_, _, _, rfl⟩ _).mono ?_
  rintro e w_k8 ⟨rfl, k8⟩
  have HW2 := Lib.hid (HW1.out.later k8)
  go_wp2_with fail
  refine hK.out _ _ ⟨cell_step k8 h_0, cell_step k8 h_1, cell_step k8 h_2, below_step h_B k8⟩ (fun hHeld => ?_)
  clear hK K h_0 h_1 h_2 h_B
  try simp only [Act.put, List.setIfInBounds_toArray, List.set_cons_zero, List.set_cons_succ, List.getElem_toArray, List.getElem_cons_zero, List.getElem_cons_succ]
  refine wpAnyH_ready (rs := [12]) (by kernel_rfl) (by simp) ?_
  refine AllReadyH.cons rfl (fun K hK => ?_) AllReadyH.nil
  simp only [List.getElem_toArray, List.getElem_cons_zero, List.getElem_cons_succ]
  go_simp
  go_at_call 19
  obtain ⟨h_0, h_1, h_2, h_B⟩ := hHeld
  refine (HRN.out _).mono ?_
  rintro e w_k9 ⟨v2, rfl, hv2, k9⟩
  obtain ⟨am, cm, rfl⟩ := hv2.value
  have HW3 := Lib.hid (HW2.out.later k9)
  have HU3 := Lib.hid hv2
  clear hv2
  go_wp2_with fail
  refine hK.out _ _ ⟨cell_step k9 h_0, cell_step k9 h_1, cell_step k9 h_2, below_step h_B k9⟩ (fun hHeld => ?_)
  clear hK K h_0 h_1 h_2 h_B
  try simp only [Act.put, List.setIfInBounds_toArray, List.set_cons_zero, List.set_cons_succ, List.getElem_toArray, List.getElem_cons_zero, List.getElem_cons_succ]
  refine wpAnyH_ready (rs := [13]) (by kernel_rfl) (by simp) ?_
  refine AllReadyH.cons rfl (fun K hK => ?_) AllReadyH.nil
  simp only [List.getElem_toArray, List.getElem_cons_zero, List.getElem_cons_succ]
  go_simp
  go_at_call 14
  obtain ⟨h_0, h_1, h_2, h_B⟩ := hHeld
  refine (same_same nr nc _ _ nz HNZ.out _ HW3.out HU3.out).mono ?_
  rintro e w_k10 ⟨rfl, k10⟩
  have hb10 := Lib.hid (below_step h_B k10)
  go_wp2_with fail
  refine hK.out _ _ ⟨cell_step k10 h_0, cell_step k10 h_1, cell_step k10 h_2, below_step h_B k10⟩ (fun hHeld => ?_)
  clear hK K h_0 h_1 h_2 h_B
  try simp only [Act.put, List.setIfInBounds_toArray, List.set_cons_zero, List.set_cons_succ, List.getElem_toArray, List.getElem_cons_zero, List.getElem_cons_succ]
  refine wpAnyH_take (i := 14) (v := ?v65) rfl (by kernel_rfl) (by kernel_rfl) (by kernel_rfl) (fun _ _ _ h => h) (Or.inl ⟨by rfl, ?hy65⟩) (by assumption) ?rest65
  case hy65 => (intro w hSw; (try dsimp only at hSw); go_simp; (first | done | with_reducible rfl))
  simp only [Act.put, List.setIfInBounds_toArray, List.set_cons_zero, List.set_cons_succ, List.getElem_toArray, List.getElem_cons_zero, List.getElem_cons_succ]
  refine wpAnyH_take (i := 15) (v := ?v66) rfl (by kernel_rfl) (by kernel_rfl) (by kernel_rfl) (fun _ _ _ h => h) (Or.inl ⟨by rfl, ?hy66⟩) (by assumption) ?rest66
  case hy66 => (intro w hSw; (try dsimp only at hSw); go_simp; (first | done | with_reducible rfl))
  simp only [Act.put, List.setIfInBounds_toArray, List.set_cons_zero, List.set_cons_succ, List.getElem_toArray, List.getElem_cons_zero, List.getElem_cons_succ]
  refine wpAnyH_done (by kernel_rfl) ?_ _
  go_wp2_with fail
  go_ret
  exact ⟨rfl, below_step B9.out hb10.out⟩
theorem walk_makes (r c i j : Int) (hrb : -9223372036854775808 ≤ r ∧ r ≤ 9223372036854775807) (hcb : -9223372036854775808 ≤ c ∧ c ≤ 9223372036854775807) (v : Value) (zs : List Int) (w : World) (hv : IntsW .i64 w.heap.size w v zs) :
    Calls Try.prog 3 #[.agg #[.int .i64 r, .int .i64 c, v], .int .i64 i, .int .i64 j] w fun e w' => e = .returned (.bool true) ∧ Below w.heap.size w w' := by
  by_cases h6 : zs.length ≤ 600
  · cases hr : rightB r c zs.length
    · exact walk_makes_no r c i j hrb hcb v zs w hv h6 hr
    · exact walk_makes_yes r c i j hrb hcb v zs w hv h6 hr
  · exact walk_makes_big r c i j v zs w hv (by omega)
end Go.Proofs.Ytinflmjombcolaa
