/- States that are copied and started; whether two states are the same. -/
import Derived.Test.YtmffgbmjomaehaaSgdNw
namespace Go.Proofs.Ytmffgbmjomaehaa
open Go.RowKit
set_option linter.unusedVariables false
set_option maxHeartbeats 1000000 in
theorem clone13_any (p m : Value) (zp zm : List Int) (hp : zp.length * 8 ≤ 140737488351232) (hm : zm.length * 8 ≤ 140737488351232) (w : World) (ip : IntsW .i64 w.heap.size w p zp) (im : IntsW .i64 w.heap.size w m zm) :
    Calls Try.prog 26 #[.agg #[p, m]] w (GivenState zp zm w) := by
  have HP := Lib.hid (fun W (h : Below w.heap.size w W) => vclone_w p zp hp w.heap.size W h.size (ip.below h))
  have HM := Lib.hid (fun W (h : Below w.heap.size w W) => vclone_w m zm hm w.heap.size W h.size (im.below h))
  obtain ⟨a1, c1, rfl⟩ := ip.value
  obtain ⟨a2, c2, rfl⟩ := im.value
  have al := (Below.refl w.heap.size w).alloc (Nat.le_refl _) (.cells #[.slice a1 zp.length c1, .slice a2 zm.length c2] 31)
  have al1 := (Below.refl (w.alloc (.cells #[.slice a1 zp.length c1, .slice a2 zm.length c2] 31)).heap.size (w.alloc (.cells #[.slice a1 zp.length c1, .slice a2 zm.length c2] 31))).alloc (Nat.le_refl _) (.cells #[.slice none 0 0, .slice none 0 0] 31)
  have k01 := cells_two w (.slice a1 zp.length c1) (.slice a2 zm.length c2) 31
  have q01 := cells_two (w.alloc (.cells #[.slice a1 zp.length c1, .slice a2 zm.length c2] 31)) (.slice none 0 0) (.slice none 0 0) 31
  have qf := World.frozen?_alloc_new (w.alloc (.cells #[.slice a1 zp.length c1, .slice a2 zm.length c2] 31)) #[.slice none 0 0, .slice none 0 0] 31
  rw [World.size_alloc] at q01 qf
  have k0 := cell_step al1 k01.1
  have k1 := cell_step al1 k01.2
  have AL := below_step al al1
  have hz : ((w.alloc (.cells #[.slice a1 zp.length c1, .slice a2 zm.length c2] 31)).alloc (.cells #[.slice none 0 0, .slice none 0 0] 31)).heap.size = w.heap.size + 2 := by simp
  clear k01 al al1 ip im
  go_enter Try.func26, Try.ntmps26
  go_wp2_with fail
  generalize (w.alloc (.cells #[.slice a1 zp.length c1, .slice a2 zm.length c2] 31)).alloc (.cells #[.slice none 0 0, .slice none 0 0] 31) = W0 at *
  generalize hN : w.heap.size = NN at *
  obtain ⟨q0, q1⟩ := q01
  have qf0 := qf 0
  have qf1 := qf 1
  clear qf
  refine wp_region_held_drew (S := fun w' => w'.cell? ⟨NN, 0, none⟩ = some (.slice a1 zp.length c1) ∧ w'.cell? ⟨NN, 1, none⟩ = some (.slice a2 zm.length c2)) (by kernel_rfl) ?_ (fun hHeld => ?_)
  · exact ⟨k0, k1⟩
  refine wpAnyH_take (i := 0) (v := ?v1) rfl (by kernel_rfl) (by kernel_rfl) (by kernel_rfl) (fun _ _ _ h => h) (Or.inl ⟨by rfl, ?hy1⟩) (by assumption) ?rest1
  case hy1 => (intro w hSw; (try dsimp only at hSw); go_simp; (first | done | with_reducible rfl))
  simp only [Act.put, List.setIfInBounds_toArray, List.set_cons_zero, List.set_cons_succ, List.getElem_toArray, List.getElem_cons_zero]
  refine wpAnyH_take (i := 1) (v := ?v2) rfl (by kernel_rfl) (by kernel_rfl) (by kernel_rfl) (fun _ _ _ h => h) (Or.inl ⟨by rfl, ?hy2⟩) (by assumption) ?rest2
  case hy2 => (intro w hSw; (try dsimp only at hSw); go_simp; (first | done | with_reducible rfl))
  simp only [Act.put, List.setIfInBounds_toArray, List.set_cons_zero, List.set_cons_succ, List.getElem_toArray, List.getElem_cons_zero, List.getElem_cons_succ]
  refine wpAnyH_take (i := 3) (v := ?v3) rfl (by kernel_rfl) (by kernel_rfl) (by kernel_rfl) (fun _ _ _ h => h) (Or.inl ⟨by rfl, ?hy3⟩) (by assumption) ?rest3
  case hy3 => (intro w hSw; (try dsimp only at hSw); go_simp; (first | done | with_reducible rfl))
  simp only [Act.put, List.setIfInBounds_toArray, List.set_cons_zero, List.set_cons_succ, List.getElem_toArray, List.getElem_cons_zero, List.getElem_cons_succ]
  refine wpAnyH_take (i := 4) (v := ?v4) rfl (by kernel_rfl) (by kernel_rfl) (by kernel_rfl) (fun _ _ _ h => h) (Or.inl ⟨by rfl, ?hy4⟩) (by assumption) ?rest4
  case hy4 => (intro w hSw; (try dsimp only at hSw); go_simp; (first | done | with_reducible rfl))
  simp only [Act.put, List.setIfInBounds_toArray, List.set_cons_zero, List.set_cons_succ, List.getElem_toArray, List.getElem_cons_zero, List.getElem_cons_succ]
  refine wpAnyH_ready (rs := [2]) (by kernel_rfl) (by simp) ?_
  refine AllReadyH.cons rfl (fun K hK => ?_) AllReadyH.nil
  simp only [List.getElem_toArray, List.getElem_cons_zero, List.getElem_cons_succ]
  go_simp
  go_at_call 27
  refine (HP.out _ AL.drew).mono ?_
  rintro e w5 ⟨vp, rfl, op, b5⟩
  have BW5 := below_step (Below.refl W0.heap.size W0).drew b5
  obtain ⟨ap, cp, rfl⟩ := own_value op
  have OP := Lib.hid op
  clear op
  go_wp2_with fail
  obtain ⟨h0, h1⟩ := hHeld
  refine hK.out _ _ ⟨cell_step b5 h0, cell_step b5 h1⟩ (fun hHeld => ?_)
  clear hK K h0 h1
  try simp only [Act.put, List.setIfInBounds_toArray, List.set_cons_zero, List.set_cons_succ, List.getElem_toArray, List.getElem_cons_zero, List.getElem_cons_succ]
  refine wpAnyH_ready (rs := [5]) (by kernel_rfl) (by simp) ?_
  refine AllReadyH.cons rfl (fun K hK => ?_) AllReadyH.nil
  simp only [List.getElem_toArray, List.getElem_cons_zero, List.getElem_cons_succ]
  go_simp
  go_at_call 27
  refine (HM.out _ (AL.trans (BW5.mono (by omega)))).mono ?_
  rintro e w6 ⟨vm, rfl, om, b6⟩
  have BW6 := below_step BW5 b6
  obtain ⟨am, cm, rfl⟩ := own_value om
  have OM := Lib.hid om
  have OP6 := Lib.hid (own_below OP.out b6)
  clear om
  go_wp2_with fail
  obtain ⟨h0, h1⟩ := hHeld
  refine hK.out _ _ ⟨cell_step b6 h0, cell_step b6 h1⟩ (fun hHeld => ?_)
  clear hK K h0 h1
  try simp only [Act.put, List.setIfInBounds_toArray, List.set_cons_zero, List.set_cons_succ, List.getElem_toArray, List.getElem_cons_zero, List.getElem_cons_succ]
  refine wpAnyH_take (i := 6) (v := ?v5) rfl (by kernel_rfl) (by kernel_rfl) (by kernel_rfl) (fun _ _ _ h => h) (Or.inl ⟨by rfl, ?hy5⟩) (by assumption) ?rest5
  case hy5 => (intro w hSw; (try dsimp only at hSw); go_simp; (first | done | with_reducible rfl))
  simp only [Act.put, List.setIfInBounds_toArray, List.set_cons_zero, List.set_cons_succ, List.getElem_toArray, List.getElem_cons_zero, List.getElem_cons_succ]
  refine wpAnyH_ready (rs := [7]) (by kernel_rfl) (by simp) ?_
  refine AllReadyH.cons rfl (fun K hK => ?_) AllReadyH.nil
  simp only [List.getElem_toArray, List.getElem_cons_zero, List.getElem_cons_succ]
  have x0 := cell_step BW6 q0
  have x1 := cell_step BW6 q1
  have y0 := frozen_step BW6 q0 qf0
  have y1 := frozen_step BW6 q1 qf1
  have ST := stored2 (.slice ap zp.length cp) (.slice am zm.length cm) x0 x1 y0 y1
  have hz5 : NN + 2 ≤ w5.heap.size := by have := b5.size; have e : W0.drew.heap.size = W0.heap.size := rfl; omega
  have hzd : NN + 2 ≤ W0.drew.heap.size := by have e : W0.drew.heap.size = W0.heap.size := rfl; omega
  have RP := row_kept OP6.out (grown_trans (grown_set w6 (NN + 1) 0 (.slice ap zp.length cp)) (grown_set _ (NN + 1) 1 (.slice am zm.length cm))) (by omega)
  have RM := row_kept OM.out (grown_trans (grown_set w6 (NN + 1) 0 (.slice ap zp.length cp)) (grown_set _ (NN + 1) 1 (.slice am zm.length cm))) (by omega)
  have HR := Lib.hid (And.intro (owns_mono (show NN ≤ W0.drew.heap.size by omega) RP) (owns_mono (show NN ≤ w5.heap.size by omega) RM))
  have HB := Lib.hid ((AL.trans (BW6.mono (by omega))).trans (ST.2.2.2.2.mono (show NN ≤ NN + 1 by omega)))
  clear RP RM
  go_simp
  obtain ⟨h0, h1⟩ := hHeld
  refine hK.out _ _ ⟨(ST.2.2.2.2.cell (p := ⟨NN, 0, none⟩) (show NN < _ by omega)).trans h0, (ST.2.2.2.2.cell (p := ⟨NN, 1, none⟩) (show NN < _ by omega)).trans h1⟩ (fun hHeld => ?_)
  clear hK K h0 h1 hHeld
  try simp only [Act.put, List.setIfInBounds_toArray, List.set_cons_zero, List.set_cons_succ, List.getElem_toArray, List.getElem_cons_zero, List.getElem_cons_succ]
  refine wpAnyH_done (by kernel_rfl) ?_ _
  go_wp2_with fail
  (try simp only [Exit.inBlock, Exit.then])
  refine bodyPost_ret (v := .agg #[.slice ap zp.length cp, .slice am zm.length cm]) (by simp [results, Try.results26, ST.1, ST.2.1, go_sem]) rfl ?_
  unfold GivenState
  rw [hN]
  exact ⟨_, rfl, ⟨_, _, rfl, HR.out.1, HR.out.2⟩, HB.out⟩
set_option maxHeartbeats 1000000 in
theorem same13_any (p1 m1 p2 m2 : Value) (z1 y1 z2 y2 : List Int) (h1 : z1.length ≤ 140737488351232) (h2 : y1.length ≤ 140737488351232) (h3 : z2.length ≤ 140737488351232) (h4 : y2.length ≤ 140737488351232) (w : World) (i1 : IntsW .i64 w.heap.size w p1 z1) (i2 : IntsW .i64 w.heap.size w m1 y1) (i3 : IntsW .i64 w.heap.size w p2 z2) (i4 : IntsW .i64 w.heap.size w m2 y2) :
    Calls Try.prog 22 #[.agg #[p1, m1], .agg #[p2, m2]] w fun e w' => e = .returned (.bool (sameS z1 y1 z2 y2)) ∧ Below w.heap.size w w' := by
  have HP := Lib.hid (fun W (h : Below w.heap.size w W) => same_w p1 p2 z1 z2 h1 h3 _ _ W (i1.later h) (i3.later h))
  have HM := Lib.hid (fun W (h : Below w.heap.size w W) => same_w m1 m2 y1 y2 h2 h4 _ _ W (i2.later h) (i4.later h))
  obtain ⟨a1, c1, rfl⟩ := i1.value
  obtain ⟨a2, c2, rfl⟩ := i2.value
  obtain ⟨a3, c3, rfl⟩ := i3.value
  obtain ⟨a4, c4, rfl⟩ := i4.value
  have al := ((Below.refl w.heap.size w).alloc (Nat.le_refl _) (.cells #[.slice a1 z1.length c1, .slice a2 y1.length c2] 31)).alloc (by simp) (.cells #[.slice a3 z2.length c3, .slice a4 y2.length c4] 31)
  clear i1 i2 i3 i4
  unfold sameS
  generalize sameL z1 z2 = b1 at *
  generalize sameL y1 y2 = b2 at *
  cases b1
  · go_enter Try.func22, Try.ntmps22
    go_wp2_with fail
    refine (HP.out _ al).mono ?_
    rintro e w1 ⟨rfl, k1⟩
    have k2 := below_step al k1
    go_wp2_with fail
    go_ret
    exact ⟨rfl, k2⟩
  · go_enter Try.func22, Try.ntmps22
    go_wp2_with fail
    refine (HP.out _ al).mono ?_
    rintro e w1 ⟨rfl, k1⟩
    have k2 := below_step al k1
    have q01 := cells_two w (.slice a1 z1.length c1) (.slice a2 y1.length c2) 31
    have q23 := cells_two (w.alloc (.cells #[.slice a1 z1.length c1, .slice a2 y1.length c2] 31)) (.slice a3 z2.length c3) (.slice a4 y2.length c4) 31
    have c0 := cell_step k1 (cell_step ((Below.refl _ _).alloc (Nat.le_refl _) (.cells #[.slice a3 z2.length c3, .slice a4 y2.length c4] 31)) q01.2)
    have c2' := cell_step k1 q23.2
    rw [World.size_alloc] at c2'
    clear q01 q23
    go_wp2_with fail
    refine (HM.out _ k2).mono ?_
    rintro e w2 ⟨rfl, k3⟩
    have k4 := below_step k2 k3
    go_wp2_with fail
    go_ret
    exact ⟨by simp, k4⟩
/-- a copied state, whose two lists lie apart -/
def GivenApart (zp zm : List Int) (w : World) (e : Ending) (w' : World) : Prop := ∃ vp vm, e = .returned (.agg #[vp, vm]) ∧ w'.ownsRow w.heap.size 2 1 vp zp.length (zp.map (Value.int .i64)) ∧ w'.ownsRow w.heap.size 2 1 vm zm.length (zm.map (Value.int .i64)) ∧ (∀ k, vp.ownBlock = some k → vm.ownBlock ≠ some k) ∧ Below w.heap.size w w'
set_option maxHeartbeats 1000000 in
theorem given13_apart (p m : Value) (zp zm : List Int) (hp : zp.length * 8 ≤ 140737488351232) (hm : zm.length * 8 ≤ 140737488351232) (w : World) (ip : IntsW .i64 w.heap.size w p zp) (im : IntsW .i64 w.heap.size w m zm) :
    Calls Try.prog 10 #[.agg #[p, m]] w (GivenApart zp zm w) := by
  have HP := Lib.hid (fun W (h : Below w.heap.size w W) => refClone_any p zp hp w.heap.size W (ip.below h))
  have HM := Lib.hid (fun W (h : Below w.heap.size w W) => refClone_any m zm hm w.heap.size W (im.below h))
  obtain ⟨a1, c1, rfl⟩ := ip.value
  obtain ⟨a2, c2, rfl⟩ := im.value
  have al := (Below.refl w.heap.size w).alloc (Nat.le_refl _) (.cells #[.slice a1 zp.length c1, .slice a2 zm.length c2] 26)
  have al1 := (Below.refl (w.alloc (.cells #[.slice a1 zp.length c1, .slice a2 zm.length c2] 26)).heap.size (w.alloc (.cells #[.slice a1 zp.length c1, .slice a2 zm.length c2] 26))).alloc (Nat.le_refl _) (.cells #[.slice none 0 0, .slice none 0 0] 31)
  have k01 := cells_two w (.slice a1 zp.length c1) (.slice a2 zm.length c2) 26
  have q01 := cells_two (w.alloc (.cells #[.slice a1 zp.length c1, .slice a2 zm.length c2] 26)) (.slice none 0 0) (.slice none 0 0) 31
  have qf := World.frozen?_alloc_new (w.alloc (.cells #[.slice a1 zp.length c1, .slice a2 zm.length c2] 26)) #[.slice none 0 0, .slice none 0 0] 31
  rw [World.size_alloc] at q01 qf
  have k0 := cell_step al1 k01.1
  have k1 := cell_step al1 k01.2
  have AL := below_step al al1
  have hz : ((w.alloc (.cells #[.slice a1 zp.length c1, .slice a2 zm.length c2] 26)).alloc (.cells #[.slice none 0 0, .slice none 0 0] 31)).heap.size = w.heap.size + 2 := by simp
  clear k01 al al1 ip im
  go_enter Try.func10, Try.ntmps10
  go_wp2_with fail
  generalize (w.alloc (.cells #[.slice a1 zp.length c1, .slice a2 zm.length c2] 26)).alloc (.cells #[.slice none 0 0, .slice none 0 0] 31) = W0 at *
  generalize hN : w.heap.size = NN at *
  obtain ⟨q0, q1⟩ := q01
  have qf0 := qf 0
  have qf1 := qf 1
  clear qf
  refine wp_region_held_drew (S := fun w' => w'.cell? ⟨NN, 0, none⟩ = some (.slice a1 zp.length c1) ∧ w'.cell? ⟨NN, 1, none⟩ = some (.slice a2 zm.length c2)) (by kernel_rfl) ?_ (fun hHeld => ?_)
  · exact ⟨k0, k1⟩
  refine wpAnyH_take (i := 0) (v := ?v6) rfl (by kernel_rfl) (by kernel_rfl) (by kernel_rfl) (fun _ _ _ h => h) (Or.inl ⟨by rfl, ?hy6⟩) (by assumption) ?rest6
  case hy6 => (intro w hSw; (try dsimp only at hSw); go_simp; (first | done | with_reducible rfl))
  simp only [Act.put, List.setIfInBounds_toArray, List.set_cons_zero, List.set_cons_succ, List.getElem_toArray, List.getElem_cons_zero]
  refine wpAnyH_take (i := 1) (v := ?v7) rfl (by kernel_rfl) (by kernel_rfl) (by kernel_rfl) (fun _ _ _ h => h) (Or.inl ⟨by rfl, ?hy7⟩) (by assumption) ?rest7
  case hy7 => (intro w hSw; (try dsimp only at hSw); go_simp; (first | done | with_reducible rfl))
  simp only [Act.put, List.setIfInBounds_toArray, List.set_cons_zero, List.set_cons_succ, List.getElem_toArray, List.getElem_cons_zero, List.getElem_cons_succ]
  refine wpAnyH_take (i := 3) (v := ?v8) rfl (by kernel_rfl) (by kernel_rfl) (by kernel_rfl) (fun _ _ _ h => h) (Or.inl ⟨by rfl, ?hy8⟩) (by assumption) ?rest8
  case hy8 => (intro w hSw; (try dsimp only at hSw); go_simp; (first | done | with_reducible rfl))
  simp only [Act.put, List.setIfInBounds_toArray, List.set_cons_zero, List.set_cons_succ, List.getElem_toArray, List.getElem_cons_zero, List.getElem_cons_succ]
  refine wpAnyH_take (i := 4) (v := ?v9) rfl (by kernel_rfl) (by kernel_rfl) (by kernel_rfl) (fun _ _ _ h => h) (Or.inl ⟨by rfl, ?hy9⟩) (by assumption) ?rest9
  case hy9 => (intro w hSw; (try dsimp only at hSw); go_simp; (first | done | with_reducible rfl))
  simp only [Act.put, List.setIfInBounds_toArray, List.set_cons_zero, List.set_cons_succ, List.getElem_toArray, List.getElem_cons_zero, List.getElem_cons_succ]
  refine wpAnyH_ready (rs := [2]) (by kernel_rfl) (by simp) ?_
  refine AllReadyH.cons rfl (fun K hK => ?_) AllReadyH.nil
  simp only [List.getElem_toArray, List.getElem_cons_zero, List.getElem_cons_succ]
  go_simp
  go_at_call 11
  refine (HP.out _ AL.drew).mono ?_
  rintro e w5 ⟨vp, rfl, op, b5⟩
  have BW5 := below_step (Below.refl W0.heap.size W0).drew b5
  obtain ⟨ap, cp, rfl⟩ := own_value op
  have OP := Lib.hid op
  clear op
  go_wp2_with fail
  obtain ⟨h0, h1⟩ := hHeld
  refine hK.out _ _ ⟨cell_step b5 h0, cell_step b5 h1⟩ (fun hHeld => ?_)
  clear hK K h0 h1
  try simp only [Act.put, List.setIfInBounds_toArray, List.set_cons_zero, List.set_cons_succ, List.getElem_toArray, List.getElem_cons_zero, List.getElem_cons_succ]
  refine wpAnyH_ready (rs := [5]) (by kernel_rfl) (by simp) ?_
  refine AllReadyH.cons rfl (fun K hK => ?_) AllReadyH.nil
  simp only [List.getElem_toArray, List.getElem_cons_zero, List.getElem_cons_succ]
  go_simp
  go_at_call 11
  refine (HM.out _ (AL.trans (BW5.mono (by omega)))).mono ?_
  rintro e w6 ⟨vm, rfl, om, b6⟩
  have BW6 := below_step BW5 b6
  obtain ⟨am, cm, rfl⟩ := own_value om
  have OM := Lib.hid om
  have OP6 := Lib.hid (own_below OP.out b6)
  clear om
  go_wp2_with fail
  obtain ⟨h0, h1⟩ := hHeld
  refine hK.out _ _ ⟨cell_step b6 h0, cell_step b6 h1⟩ (fun hHeld => ?_)
  clear hK K h0 h1
  try simp only [Act.put, List.setIfInBounds_toArray, List.set_cons_zero, List.set_cons_succ, List.getElem_toArray, List.getElem_cons_zero, List.getElem_cons_succ]
  refine wpAnyH_take (i := 6) (v := ?v10) rfl (by kernel_rfl) (by kernel_rfl) (by kernel_rfl) (fun _ _ _ h => h) (Or.inl ⟨by rfl, ?hy10⟩) (by assumption) ?rest10
  case hy10 => (intro w hSw; (try dsimp only at hSw); go_simp; (first | done | with_reducible rfl))
  simp only [Act.put, List.setIfInBounds_toArray, List.set_cons_zero, List.set_cons_succ, List.getElem_toArray, List.getElem_cons_zero, List.getElem_cons_succ]
  refine wpAnyH_ready (rs := [7]) (by kernel_rfl) (by simp) ?_
  refine AllReadyH.cons rfl (fun K hK => ?_) AllReadyH.nil
  simp only [List.getElem_toArray, List.getElem_cons_zero, List.getElem_cons_succ]
  have x0 := cell_step BW6 q0
  have x1 := cell_step BW6 q1
  have y0 := frozen_step BW6 q0 qf0
  have y1 := frozen_step BW6 q1 qf1
  have ST := stored2 (.slice ap zp.length cp) (.slice am zm.length cm) x0 x1 y0 y1
  have hz5 : NN + 2 ≤ w5.heap.size := by have := b5.size; have e : W0.drew.heap.size = W0.heap.size := rfl; omega
  have hzd : NN + 2 ≤ W0.drew.heap.size := by have e : W0.drew.heap.size = W0.heap.size := rfl; omega
  have RP := row_kept OP6.out (grown_trans (grown_set w6 (NN + 1) 0 (.slice ap zp.length cp)) (grown_set _ (NN + 1) 1 (.slice am zm.length cm))) (by omega)
  have RM := row_kept OM.out (grown_trans (grown_set w6 (NN + 1) 0 (.slice ap zp.length cp)) (grown_set _ (NN + 1) 1 (.slice am zm.length cm))) (by omega)
  have HR := Lib.hid (And.intro (owns_mono (show NN ≤ W0.drew.heap.size by omega) RP) (owns_mono (show NN ≤ w5.heap.size by omega) RM))
  have HB := Lib.hid ((AL.trans (BW6.mono (by omega))).trans (ST.2.2.2.2.mono (show NN ≤ NN + 1 by omega)))
  clear RP RM
  go_simp
  obtain ⟨h0, h1⟩ := hHeld
  refine hK.out _ _ ⟨(ST.2.2.2.2.cell (p := ⟨NN, 0, none⟩) (show NN < _ by omega)).trans h0, (ST.2.2.2.2.cell (p := ⟨NN, 1, none⟩) (show NN < _ by omega)).trans h1⟩ (fun hHeld => ?_)
  clear hK K h0 h1 hHeld
  try simp only [Act.put, List.setIfInBounds_toArray, List.set_cons_zero, List.set_cons_succ, List.getElem_toArray, List.getElem_cons_zero, List.getElem_cons_succ]
  refine wpAnyH_done (by kernel_rfl) ?_ _
  go_wp2_with fail
  (try simp only [Exit.inBlock, Exit.then])
  refine bodyPost_ret (v := .agg #[.slice ap zp.length cp, .slice am zm.length cm]) (by simp [results, Try.results10, ST.1, ST.2.1, go_sem]) rfl ?_
  unfold GivenApart
  rw [hN]
  exact ⟨_, _, rfl, HR.out.1, HR.out.2, fun k e e2 => by have := (OP.out.lt k e).2; have := (OM.out.lt k e2).1; omega, HB.out⟩
theorem zeros_length (n : Nat) : (zeros n).length = n := by unfold zeros; simp
theorem elemV : Elem Try.prog 29 2 (.int .i64 0) 1 8 := ⟨Try.underlying29, info_parts (by kernel_rfl), rfl, by decide⟩
set_option maxHeartbeats 1000000 in
theorem start13_any (p : Value) (zp : List Int) (hp : zp.length * 8 ≤ 140737488351232) (w : World) (ip : IntsW .i64 w.heap.size w p zp) :
    Calls Try.prog 19 #[p] w (GivenState zp (zeros zp.length) w) := by
  have HP := Lib.hid (fun W (h : Below w.heap.size w W) => vclone_w p zp hp w.heap.size W h.size (ip.below h))
  obtain ⟨a1, c1, rfl⟩ := ip.value
  have hmk := run_make_elem elemV .i64 .i64 zp.length (by omega) (by omega)
  have MZ := Lib.hid (fun W => made_zeros (w := W) (n := zp.length) (by unfold maxLen; omega))
  have AL := (Below.refl w.heap.size w).alloc (Nat.le_refl _) (.cells #[.slice none 0 0, .slice none 0 0] 31)
  have q01 := cells_two w (.slice none 0 0) (.slice none 0 0) 31
  have qf := World.frozen?_alloc_new w #[.slice none 0 0, .slice none 0 0] 31
  have hz : (w.alloc (.cells #[.slice none 0 0, .slice none 0 0] 31)).heap.size = w.heap.size + 1 := by simp
  clear ip
  go_enter Try.func19, Try.ntmps19
  go_wp2_with fail
  generalize w.alloc (.cells #[.slice none 0 0, .slice none 0 0] 31) = W0 at *
  generalize hN : w.heap.size = NN at *
  obtain ⟨q0, q1⟩ := q01
  have qf0 := qf 0
  have qf1 := qf 1
  clear qf
  refine wp_region_held_drew (S := fun w' => Below W0.heap.size W0 w' ∨ True) (by kernel_rfl) ?_ (fun hHeld => ?_)
  · exact .inr trivial
  refine wpAnyH_take (i := 0) (v := ?v11) rfl (by kernel_rfl) (by kernel_rfl) (by kernel_rfl) (fun _ _ _ h => h) (Or.inl ⟨by rfl, ?hy11⟩) (by assumption) ?rest11
  case hy11 => (intro w hSw; (try dsimp only at hSw); go_simp; (first | done | with_reducible rfl))
  simp only [Act.put, List.setIfInBounds_toArray, List.set_cons_zero, List.set_cons_succ, List.getElem_toArray, List.getElem_cons_zero]
  refine wpAnyH_take (i := 2) (v := ?v12) rfl (by kernel_rfl) (by kernel_rfl) (by kernel_rfl) (fun _ _ _ h => h) (Or.inl ⟨by rfl, ?hy12⟩) (by assumption) ?rest12
  case hy12 => (intro w hSw; (try dsimp only at hSw); go_simp; (first | done | with_reducible rfl))
  simp only [Act.put, List.setIfInBounds_toArray, List.set_cons_zero, List.set_cons_succ, List.getElem_toArray, List.getElem_cons_zero, List.getElem_cons_succ]
  refine wpAnyH_take (i := 3) (v := ?v13) rfl (by kernel_rfl) (by kernel_rfl) (by kernel_rfl) (fun _ _ _ h => h) (Or.inl ⟨by rfl, ?hy13⟩) (by assumption) ?rest13
  case hy13 => (intro w hSw; (try dsimp only at hSw); go_simp; (first | done | with_reducible rfl))
  simp only [Act.put, List.setIfInBounds_toArray, List.set_cons_zero, List.set_cons_succ, List.getElem_toArray, List.getElem_cons_zero, List.getElem_cons_succ]
  have B00 := (Below.refl W0.heap.size W0).drew
  refine wpAnyH_ready (rs := [1, 4]) (by kernel_rfl) (by simp) ?_
  refine AllReadyH.cons rfl (fun K hK => ?_) ?_
  · try simp only [Act.put, List.setIfInBounds_toArray, List.set_cons_zero, List.set_cons_succ, List.getElem_toArray, List.getElem_cons_zero, List.getElem_cons_succ]
    go_simp
    go_at_call 27
    refine (HP.out _ (AL.trans (B00.mono (by omega)))).mono ?_
    rintro e w5 ⟨vp, rfl, op, b5⟩
    have BW5 := below_step B00 b5
    obtain ⟨ap, cp, rfl⟩ := own_value op
    have OP := Lib.hid op
    clear op
    go_wp2_with fail
    refine hK.out _ _ (.inr trivial) (fun hHeld => ?_)
    clear hK K
    try simp only [Act.put, List.setIfInBounds_toArray, List.set_cons_zero, List.set_cons_succ, List.getElem_toArray, List.getElem_cons_zero, List.getElem_cons_succ]
    refine wpAnyH_ready (rs := [4]) (by kernel_rfl) (by simp) ?_
    refine AllReadyH.cons rfl (fun K hK => ?_) AllReadyH.nil
    simp only [List.getElem_toArray, List.getElem_cons_zero, List.getElem_cons_succ]
    go_simp
    have BW6 := BW5.alloc BW5.size (.cells (madeCells #[.int .i64 0] zp.length) 2)
    have OZ := Lib.hid (MZ.out w5)
    have al6 := (Below.refl w5.heap.size w5).alloc (Nat.le_refl _) (.cells (madeCells #[.int .i64 0] zp.length) 2)
    have OP6 := Lib.hid (own_below OP.out al6)
    have z5 := b5.size
    have zz : W0.drew.heap.size = W0.heap.size := rfl
    refine hK.out _ _ (.inr trivial) (fun hHeld => ?_)
    clear hK K
    try simp only [Act.put, List.setIfInBounds_toArray, List.set_cons_zero, List.set_cons_succ, List.getElem_toArray, List.getElem_cons_zero, List.getElem_cons_succ]
    generalize w5.alloc (.cells (madeCells #[.int .i64 0] zp.length) 2) = W6 at *
    refine wpAnyH_take (i := 5) (v := ?v14) rfl (by kernel_rfl) (by kernel_rfl) (by kernel_rfl) (fun _ _ _ h => h) (Or.inl ⟨by rfl, ?hy14⟩) (by assumption) ?rest14
    case hy14 => (intro w hSw; (try dsimp only at hSw); go_simp; (first | done | with_reducible rfl))
    simp only [Act.put, List.setIfInBounds_toArray, List.set_cons_zero, List.set_cons_succ, List.getElem_toArray, List.getElem_cons_zero, List.getElem_cons_succ]
    refine wpAnyH_ready (rs := [6]) (by kernel_rfl) (by simp) ?_
    refine AllReadyH.cons rfl (fun K hK => ?_) AllReadyH.nil
    simp only [List.getElem_toArray, List.getElem_cons_zero, List.getElem_cons_succ]
    have x0 := cell_step BW6 q0
    have x1 := cell_step BW6 q1
    have y0 := frozen_step BW6 q0 qf0
    have y1 := frozen_step BW6 q1 qf1
    have ST := stored2 (.slice ap zp.length cp) (.slice (some ⟨w5.heap.size, 0, none⟩) zp.length zp.length) x0 x1 y0 y1
    have RP := row_kept OP6.out (grown_trans (grown_set W6 NN 0 (.slice ap zp.length cp)) (grown_set _ NN 1 (.slice (some ⟨w5.heap.size, 0, none⟩) zp.length zp.length))) (by omega)
    have RM := row_kept OZ.out (grown_trans (grown_set W6 NN 0 (.slice ap zp.length cp)) (grown_set _ NN 1 (.slice (some ⟨w5.heap.size, 0, none⟩) zp.length zp.length))) (by omega)
    have HR := Lib.hid (And.intro (owns_mono (show NN ≤ W0.drew.heap.size by omega) RP) (owns_mono (show NN ≤ w5.heap.size by omega) RM))
    have HB := Lib.hid ((AL.trans (BW6.mono (by omega))).trans (ST.2.2.2.2.mono (Nat.le_refl NN)))
    have hs0 := ST.1
    have hs1 := ST.2.1
    clear RP RM ST
    go_simp
    refine hK.out _ _ (.inr trivial) (fun hHeld => ?_)
    clear hK K hHeld
    try simp only [Act.put, List.setIfInBounds_toArray, List.set_cons_zero, List.set_cons_succ, List.getElem_toArray, List.getElem_cons_zero, List.getElem_cons_succ]
    refine wpAnyH_done (by kernel_rfl) ?_ _
    go_wp2_with fail
    (try simp only [Exit.inBlock, Exit.then])
    refine bodyPost_ret (v := .agg #[.slice ap zp.length cp, .slice (some ⟨w5.heap.size, 0, none⟩) zp.length zp.length]) (by simp [results, Try.results19, hs0, hs1, go_sem]) rfl ?_
    unfold GivenState
    rw [hN]
    refine ⟨_, rfl, ⟨_, _, rfl, HR.out.1, ?_⟩, HB.out⟩
    rw [zeros_length]
    exact HR.out.2
  refine AllReadyH.cons rfl (fun K hK => ?_) AllReadyH.nil
  try simp only [Act.put, List.setIfInBounds_toArray, List.set_cons_zero, List.set_cons_succ, List.getElem_toArray, List.getElem_cons_zero, List.getElem_cons_succ]
  go_simp
  have B01 := ((Below.refl W0.heap.size W0).alloc (Nat.le_refl _) (.cells (madeCells #[.int .i64 0] zp.length) 2)).drew
  have OZ := Lib.hid (own_below (MZ.out W0) (Below.refl _ _).drew)
  have z1 : (W0.alloc (.cells (madeCells #[.int .i64 0] zp.length) 2)).drew.heap.size = W0.heap.size + 1 := by simp
  rw [hz] at OZ
  refine hK.out _ _ (.inr trivial) (fun hHeld => ?_)
  clear hK K
  try simp only [Act.put, List.setIfInBounds_toArray, List.set_cons_zero, List.set_cons_succ, List.getElem_toArray, List.getElem_cons_zero, List.getElem_cons_succ]
  generalize (W0.alloc (.cells (madeCells #[.int .i64 0] zp.length) 2)).drew = W1 at *
  refine wpAnyH_ready (rs := [1]) (by kernel_rfl) (by simp) ?_
  refine AllReadyH.cons rfl (fun K hK => ?_) AllReadyH.nil
  simp only [List.getElem_toArray, List.getElem_cons_zero, List.getElem_cons_succ]
  go_simp
  go_at_call 27
  refine (HP.out _ (AL.trans (B01.mono (by omega)))).mono ?_
  rintro e w5 ⟨vp, rfl, op, b5⟩
  have BW6 := below_step B01 b5
  obtain ⟨ap, cp, rfl⟩ := own_value op
  have OP6 := Lib.hid op
  have OZ6 := Lib.hid (own_below OZ.out b5)
  have z5 := b5.size
  clear op
  go_wp2_with fail
  refine hK.out _ _ (.inr trivial) (fun hHeld => ?_)
  clear hK K
  try simp only [Act.put, List.setIfInBounds_toArray, List.set_cons_zero, List.set_cons_succ, List.getElem_toArray, List.getElem_cons_zero, List.getElem_cons_succ]
  refine wpAnyH_take (i := 5) (v := ?v15) rfl (by kernel_rfl) (by kernel_rfl) (by kernel_rfl) (fun _ _ _ h => h) (Or.inl ⟨by rfl, ?hy15⟩) (by assumption) ?rest15
  case hy15 => (intro w hSw; (try dsimp only at hSw); go_simp; (first | done | with_reducible rfl))
  simp only [Act.put, List.setIfInBounds_toArray, List.set_cons_zero, List.set_cons_succ, List.getElem_toArray, List.getElem_cons_zero, List.getElem_cons_succ]
  refine wpAnyH_ready (rs := [6]) (by kernel_rfl) (by simp) ?_
  refine AllReadyH.cons rfl (fun K hK => ?_) AllReadyH.nil
  simp only [List.getElem_toArray, List.getElem_cons_zero, List.getElem_cons_succ]
  have x0 := cell_step BW6 q0
  have x1 := cell_step BW6 q1
  have y0 := frozen_step BW6 q0 qf0
  have y1 := frozen_step BW6 q1 qf1
  have ST := stored2 (.slice ap zp.length cp) (.slice (some ⟨NN + 1, 0, none⟩) zp.length zp.length) x0 x1 y0 y1
  have RP := row_kept OP6.out (grown_trans (grown_set w5 NN 0 (.slice ap zp.length cp)) (grown_set _ NN 1 (.slice (some ⟨NN + 1, 0, none⟩) zp.length zp.length))) (by omega)
  have RM := row_kept OZ6.out (grown_trans (grown_set w5 NN 0 (.slice ap zp.length cp)) (grown_set _ NN 1 (.slice (some ⟨NN + 1, 0, none⟩) zp.length zp.length))) (by omega)
  have HR := Lib.hid (And.intro (owns_mono (show NN ≤ W1.heap.size by omega) RP) (owns_mono (show NN ≤ NN + 1 by omega) RM))
  have HB := Lib.hid ((AL.trans (BW6.mono (by omega))).trans (ST.2.2.2.2.mono (Nat.le_refl NN)))
  have hs0 := ST.1
  have hs1 := ST.2.1
  clear RP RM ST
  go_simp
  refine hK.out _ _ (.inr trivial) (fun hHeld => ?_)
  clear hK K hHeld
  try simp only [Act.put, List.setIfInBounds_toArray, List.set_cons_zero, List.set_cons_succ, List.getElem_toArray, List.getElem_cons_zero, List.getElem_cons_succ]
  refine wpAnyH_done (by kernel_rfl) ?_ _
  go_wp2_with fail
  (try simp only [Exit.inBlock, Exit.then])
  refine bodyPost_ret (v := .agg #[.slice ap zp.length cp, .slice (some ⟨NN + 1, 0, none⟩) zp.length zp.length]) (by simp [results, Try.results19, hs0, hs1, go_sem]) rfl ?_
  unfold GivenState
  rw [hN]
  refine ⟨_, rfl, ⟨_, _, rfl, HR.out.1, ?_⟩, HB.out⟩
  rw [zeros_length]
  exact HR.out.2
set_option maxHeartbeats 1000000 in
theorem refStart13_any (p : Value) (zp : List Int) (hp : zp.length * 8 ≤ 140737488351232) (w : World) (ip : IntsW .i64 w.heap.size w p zp) :
    Calls Try.prog 21 #[p] w fun e w' => ∃ a c, e = .returned (.agg #[p, .slice a zp.length c]) ∧ w'.ownsRow w.heap.size 2 1 (.slice a zp.length c) zp.length ((zeros zp.length).map (Value.int .i64)) ∧ Below w.heap.size w w' := by
  obtain ⟨a1, c1, rfl⟩ := ip.value
  have hmk := run_make_elem elem64 .i64 .i64 zp.length (by omega) (by omega)
  have MZ := Lib.hid (fun W => made_zeros (w := W) (n := zp.length) (by unfold maxLen; omega))
  have AL := (Below.refl w.heap.size w).alloc (Nat.le_refl _) (.cells #[.slice none 0 0, .slice none 0 0] 26)
  have q01 := cells_two w (.slice none 0 0) (.slice none 0 0) 26
  have qf := World.frozen?_alloc_new w #[.slice none 0 0, .slice none 0 0] 26
  have hz : (w.alloc (.cells #[.slice none 0 0, .slice none 0 0] 26)).heap.size = w.heap.size + 1 := by simp
  clear ip
  go_enter Try.func21, Try.ntmps21
  go_wp2_with fail
  have OZ := MZ.out (w.alloc (.cells #[.slice a1 zp.length c1, .slice (some ⟨w.heap.size + 1, 0, none⟩) zp.length zp.length] 26))
  have k01 := cells_two w (.slice a1 zp.length c1) (.slice (some ⟨w.heap.size + 1, 0, none⟩) zp.length zp.length) 26
  have al1 := (Below.refl w.heap.size w).alloc (Nat.le_refl _) (.cells #[.slice a1 zp.length c1, .slice (some ⟨w.heap.size + 1, 0, none⟩) zp.length zp.length] 26)
  have al2 := (Below.refl (w.alloc (.cells #[.slice a1 zp.length c1, .slice (some ⟨w.heap.size + 1, 0, none⟩) zp.length zp.length] 26)).heap.size _).alloc (Nat.le_refl _) (.cells (madeCells #[.int .i64 0] zp.length) 2)
  have hs0 := cell_step al2 k01.1
  have hs1 := cell_step al2 k01.2
  rw [World.size_alloc] at OZ
  have HR := Lib.hid (And.intro (owns_mono (show w.heap.size ≤ w.heap.size + 1 by omega) OZ) (below_step al1 al2))
  clear OZ al1 al2 k01
  (try simp only [Exit.inBlock, Exit.then])
  refine bodyPost_ret (v := .agg #[.slice a1 zp.length c1, .slice (some ⟨w.heap.size + 1, 0, none⟩) zp.length zp.length]) (by simp [results, Try.results21, hs0, hs1, go_sem]) rfl ?_
  exact ⟨_, _, rfl, HR.out.1, HR.out.2⟩
end Go.Proofs.Ytmffgbmjomaehaa
