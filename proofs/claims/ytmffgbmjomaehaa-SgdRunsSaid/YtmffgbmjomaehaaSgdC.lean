/- States that are copied; whether states are few, the same. -/
import Derived.Test.YtmffgbmjomaehaaSgdM
import Derived.Deep.RegionHeld3
namespace Go.Proofs.Ytmffgbmjomaehaa
open Go.RowKit
set_option linter.unusedVariables false
theorem rows_three {q : IntKind} {w : World} {u1 u2 u3 : Value} {e : TypeId} {z1 z2 z3 : List Int} (h1 : IntsW q w.heap.size w u1 z1) (h2 : IntsW q w.heap.size w u2 z2) (h3 : IntsW q w.heap.size w u3 z3) :
    RowsAt q (w.alloc (.cells #[u1, u2, u3] e)).heap.size (w.alloc (.cells #[u1, u2, u3] e)) (.slice (some ⟨w.heap.size, 0, none⟩) 3 3) [z1, z2, z3] := by
  refine RowsAt.fresh (zss := [z1, z2, z3]) rfl fun j u zs hu hz => ?_
  rcases j with _ | _ | _ | j
  · cases hu; cases hz; exact h1
  · cases hu; cases hz; exact h2
  · cases hu; cases hz; exact h3
  · simp at hu
theorem few3_any (p m g : Value) (zp zm zg : List Int) (hp : zp.length ≤ maxLen) (hm : zm.length ≤ maxLen) (hg : zg.length ≤ maxLen) (w : World) (ip : IntsW .i64 w.heap.size w p zp) (im : IntsW .i64 w.heap.size w m zm) (ig : IntsW .i64 w.heap.size w g zg) :
    Calls Try.prog 8 #[.agg #[p, m], g] w fun e w' => e = .returned (.bool (fewB [zp, zm, zg])) ∧ Below w.heap.size w w' := by
  have al := (Below.refl w.heap.size w).alloc (Nat.le_refl _) (.cells #[p, m] 26)
  have X := rows_three (e := 24) (ip.later al) (im.later al) (ig.later al)
  have HF := Lib.hid (few_any _ [zp, zm, zg] (by simp [maxLen]) (by simp; exact ⟨hp, hm, hg⟩) _ _ X)
  obtain ⟨a1, c1, rfl⟩ := ip.value
  obtain ⟨a2, c2, rfl⟩ := im.value
  obtain ⟨a3, c3, rfl⟩ := ig.value
  have al2 := al.alloc al.size (.cells #[.slice a1 zp.length c1, .slice a2 zm.length c2, .slice a3 zg.length c3] 24)
  clear X ip im ig
  go_enter Try.func8, Try.ntmps8
  go_wp2_with fail
  rw [World.size_alloc] at HF
  refine HF.out.mono ?_
  rintro e w1 ⟨rfl, rfl⟩
  go_wp2_with fail
  go_ret
  exact ⟨rfl, al2⟩
/-- a state with two lists of the call's own -/
def OwnState (base : Nat) (v : Value) (zp zm : List Int) (w : World) : Prop := ∃ vp vm, v = .agg #[vp, vm] ∧ w.ownsRow base 2 1 vp zp.length (zp.map (Value.int .i64)) ∧ w.ownsRow base 2 1 vm zm.length (zm.map (Value.int .i64))
def GivenState (zp zm : List Int) (w : World) (e : Ending) (w' : World) : Prop := ∃ v, e = .returned v ∧ OwnState w.heap.size v zp zm w' ∧ Below w.heap.size w w'
set_option maxHeartbeats 1000000 in
theorem given13_any (p m : Value) (zp zm : List Int) (hp : zp.length * 8 ≤ 140737488351232) (hm : zm.length * 8 ≤ 140737488351232) (w : World) (ip : IntsW .i64 w.heap.size w p zp) (im : IntsW .i64 w.heap.size w m zm) :
    Calls Try.prog 10 #[.agg #[p, m]] w (GivenState zp zm w) := by
  have HP := Lib.hid (fun W (h : Below w.heap.size w W) => refClone_any p zp hp w.heap.size W (ip.below h))
  have HM := Lib.hid (fun W (h : Below w.heap.size w W) => refClone_any m zm hm w.heap.size W (im.below h))
  obtain ⟨a1, c1, rfl⟩ := ip.value
  obtain ⟨a2, c2, rfl⟩ := im.value
  have al := (Below.refl w.heap.size w).alloc (Nat.le_refl _) (.cells #[.slice a1 zp.length c1, .slice a2 zm.length c2] 26)
  have al1 := (Below.refl (w.alloc (.cells #[.slice a1 zp.length c1, .slice a2 zm.length c2] 26)).heap.size (w.alloc (.cells #[.slice a1 zp.length c1, .slice a2 zm.length c2] 26))).alloc (Nat.le_refl _) (.cells #[.slice none 0 0, .slice none 0 0] 31)
  have k01 := cells_two w (.slice a1 zp.length c1) (.slice a2 zm.length c2) 26
  have q01 := cells_two (w.alloc (.cells #[.slice a1 zp.length c1, .slice a2 zm.length c2] 26)) (.slice none 0 0) (.slice none 0 0) 31
  have qf := World.frozen?_alloc_new (w.alloc (.cells #[.slice a1 zp.length c1, .slice a2 zm.length c2] 26)) #[.slice none 0 0, .slice none 0 0] 31
  rw [World.size_alloc] at q01 qf
  have k0 := cell_step al1 k01.1
  have k1 := cell_step al1 k01.2
  have AL := below_step al al1
  have hz : ((w.alloc (.cells #[.slice a1 zp.length c1, .slice a2 zm.length c2] 26)).alloc (.cells #[.slice none 0 0, .slice none 0 0] 31)).heap.size = w.heap.size + 2 := by simp
  clear k01 al al1 ip im
  go_enter Try.func10, Try.ntmps10
  go_wp2_with fail
  generalize (w.alloc (.cells #[.slice a1 zp.length c1, .slice a2 zm.length c2] 26)).alloc (.cells #[.slice none 0 0, .slice none 0 0] 31) = W0 at *
  generalize hN : w.heap.size = NN at *
  obtain ⟨q0, q1⟩ := q01
  have qf0 := qf 0
  have qf1 := qf 1
  clear qf
  refine wp_region_held_drew (S := fun w' => w'.cell? ⟨NN, 0, none⟩ = some (.slice a1 zp.length c1) ∧ w'.cell? ⟨NN, 1, none⟩ = some (.slice a2 zm.length c2)) (by kernel_rfl) ?_ (fun hHeld => ?_)
  · exact ⟨k0, k1⟩
  refine wpAnyH_take (i := 0) (v := ?v1) rfl (by kernel_rfl) (by kernel_rfl) (by kernel_rfl) (fun _ _ _ h => h) (Or.inl ⟨by rfl, ?hy1⟩) (by assumption) ?rest1
  case hy1 => (intro w hSw; (try dsimp only at hSw); go_simp; (first | done | with_reducible rfl))
  simp only [Act.put, List.setIfInBounds_toArray, List.set_cons_zero, List.set_cons_succ, List.getElem_toArray, List.getElem_cons_zero]
  refine wpAnyH_take (i := 1) (v := ?v2) rfl (by kernel_rfl) (by kernel_rfl) (by kernel_rfl) (fun _ _ _ h => h) (Or.inl ⟨by rfl, ?hy2⟩) (by assumption) ?rest2
  case hy2 => (intro w hSw; (try dsimp only at hSw); go_simp; (first | done | with_reducible rfl))
  simp only [Act.put, List.setIfInBounds_toArray, List.set_cons_zero, List.set_cons_succ, List.getElem_toArray, List.getElem_cons_zero, List.getElem_cons_succ]
  refine wpAnyH_take (i := 3) (v := ?v3) rfl (by kernel_rfl) (by kernel_rfl) (by kernel_rfl) (fun _ _ _ h => h) (Or.inl ⟨by rfl, ?hy3⟩) (by assumption) ?rest3
  case hy3 => (intro w hSw; (try dsimp only at hSw); go_simp; (first | done | with_reducible rfl))
  simp only [Act.put, List.setIfInBounds_toArray, List.set_cons_zero, List.set_cons_succ, List.getElem_toArray, List.getElem_cons_zero, List.getElem_cons_succ]
  refine wpAnyH_take (i := 4) (v := ?v4) rfl (by kernel_rfl) (by kernel_rfl) (by kernel_rfl) (fun _ _ _ h => h) (Or.inl ⟨by rfl, ?hy4⟩) (by assumption) ?rest4
  case hy4 => (intro w hSw; (try dsimp only at hSw); go_simp; (first | done | with_reducible rfl))
  simp only [Act.put, List.setIfInBounds_toArray, List.set_cons_zero, List.set_cons_succ, List.getElem_toArray, List.getElem_cons_zero, List.getElem_cons_succ]
  refine wpAnyH_ready (rs := [2]) (by kernel_rfl) (by simp) ?_
  refine AllReadyH.cons rfl (fun K hK => ?_) AllReadyH.nil
  simp only [List.getElem_toArray, List.getElem_cons_zero, List.getElem_cons_succ]
  go_simp
  go_at_call 11
  refine (HP.out _ AL.drew).mono ?_
  rintro e w5 ⟨vp, rfl, op, b5⟩
  have BW5 := below_step (Below.refl W0.heap.size W0).drew b5
  obtain ⟨ap, cp, rfl⟩ := own_value op
  have OP := Lib.hid op
  clear op
  go_wp2_with fail
  obtain ⟨h0, h1⟩ := hHeld
  refine hK.out _ _ ⟨cell_step b5 h0, cell_step b5 h1⟩ (fun hHeld => ?_)
  clear hK K h0 h1
  try simp only [Act.put, List.setIfInBounds_toArray, List.set_cons_zero, List.set_cons_succ, List.getElem_toArray, List.getElem_cons_zero, List.getElem_cons_succ]
  refine wpAnyH_ready (rs := [5]) (by kernel_rfl) (by simp) ?_
  refine AllReadyH.cons rfl (fun K hK => ?_) AllReadyH.nil
  simp only [List.getElem_toArray, List.getElem_cons_zero, List.getElem_cons_succ]
  go_simp
  go_at_call 11
  refine (HM.out _ (AL.trans (BW5.mono (by omega)))).mono ?_
  rintro e w6 ⟨vm, rfl, om, b6⟩
  have BW6 := below_step BW5 b6
  obtain ⟨am, cm, rfl⟩ := own_value om
  have OM := Lib.hid om
  have OP6 := Lib.hid (own_below OP.out b6)
  clear om
  go_wp2_with fail
  obtain ⟨h0, h1⟩ := hHeld
  refine hK.out _ _ ⟨cell_step b6 h0, cell_step b6 h1⟩ (fun hHeld => ?_)
  clear hK K h0 h1
  try simp only [Act.put, List.setIfInBounds_toArray, List.set_cons_zero, List.set_cons_succ, List.getElem_toArray, List.getElem_cons_zero, List.getElem_cons_succ]
  refine wpAnyH_take (i := 6) (v := ?v5) rfl (by kernel_rfl) (by kernel_rfl) (by kernel_rfl) (fun _ _ _ h => h) (Or.inl ⟨by rfl, ?hy5⟩) (by assumption) ?rest5
  case hy5 => (intro w hSw; (try dsimp only at hSw); go_simp; (first | done | with_reducible rfl))
  simp only [Act.put, List.setIfInBounds_toArray, List.set_cons_zero, List.set_cons_succ, List.getElem_toArray, List.getElem_cons_zero, List.getElem_cons_succ]
  refine wpAnyH_ready (rs := [7]) (by kernel_rfl) (by simp) ?_
  refine AllReadyH.cons rfl (fun K hK => ?_) AllReadyH.nil
  simp only [List.getElem_toArray, List.getElem_cons_zero, List.getElem_cons_succ]
  have x0 := cell_step BW6 q0
  have x1 := cell_step BW6 q1
  have y0 := frozen_step BW6 q0 qf0
  have y1 := frozen_step BW6 q1 qf1
  have ST := stored2 (.slice ap zp.length cp) (.slice am zm.length cm) x0 x1 y0 y1
  have hz5 : NN + 2 ≤ w5.heap.size := by have := b5.size; have e : W0.drew.heap.size = W0.heap.size := rfl; omega
  have hzd : NN + 2 ≤ W0.drew.heap.size := by have e : W0.drew.heap.size = W0.heap.size := rfl; omega
  have RP := row_kept OP6.out (grown_trans (grown_set w6 (NN + 1) 0 (.slice ap zp.length cp)) (grown_set _ (NN + 1) 1 (.slice am zm.length cm))) (by omega)
  have RM := row_kept OM.out (grown_trans (grown_set w6 (NN + 1) 0 (.slice ap zp.length cp)) (grown_set _ (NN + 1) 1 (.slice am zm.length cm))) (by omega)
  have HR := Lib.hid (And.intro (owns_mono (show NN ≤ W0.drew.heap.size by omega) RP) (owns_mono (show NN ≤ w5.heap.size by omega) RM))
  have HB := Lib.hid ((AL.trans (BW6.mono (by omega))).trans (ST.2.2.2.2.mono (show NN ≤ NN + 1 by omega)))
  clear RP RM
  go_simp
  obtain ⟨h0, h1⟩ := hHeld
  refine hK.out _ _ ⟨(ST.2.2.2.2.cell (p := ⟨NN, 0, none⟩) (show NN < _ by omega)).trans h0, (ST.2.2.2.2.cell (p := ⟨NN, 1, none⟩) (show NN < _ by omega)).trans h1⟩ (fun hHeld => ?_)
  clear hK K h0 h1 hHeld
  try simp only [Act.put, List.setIfInBounds_toArray, List.set_cons_zero, List.set_cons_succ, List.getElem_toArray, List.getElem_cons_zero, List.getElem_cons_succ]
  refine wpAnyH_done (by kernel_rfl) ?_ _
  go_wp2_with fail
  (try simp only [Exit.inBlock, Exit.then])
  refine bodyPost_ret (v := .agg #[.slice ap zp.length cp, .slice am zm.length cm]) (by simp [results, Try.results10, ST.1, ST.2.1, go_sem]) rfl ?_
  unfold GivenState
  rw [hN]
  exact ⟨_, rfl, ⟨_, _, rfl, HR.out.1, HR.out.2⟩, HB.out⟩
end Go.Proofs.Ytmffgbmjomaehaa
