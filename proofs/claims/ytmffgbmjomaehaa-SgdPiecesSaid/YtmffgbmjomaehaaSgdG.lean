/- States that are started, whose lists lie apart; updates block by block, as plain lists. -/
import Derived.Test.YtmffgbmjomaehaaSgdE
namespace Go.Proofs.Ytmffgbmjomaehaa
open Go.RowKit
set_option linter.unusedVariables false
/-- the parameters while the blocks are done from the last one on: those from c on are the next ones -/
def halfP (zp ns : List Int) (c : Nat) : List Int := zp.take c ++ ns.drop c
theorem halfP_length (zp ns : List Int) (c : Nat) (h : zp.length = ns.length) : (halfP zp ns c).length = zp.length := by unfold halfP; simp; omega
theorem halfP_all (zp ns : List Int) (h : zp.length = ns.length) : halfP zp ns zp.length = zp := by unfold halfP; rw [List.take_length, h, List.drop_length, List.append_nil]
theorem halfP_none (zp ns : List Int) : halfP zp ns 0 = ns := by unfold halfP; simp
theorem halfP_sub (zp ns : List Int) (a b : Nat) (hb : b ≤ zp.length) : subL2 (halfP zp ns b) a b = subL2 zp a b := by
  unfold subL2 halfP
  rw [List.take_append_of_le_length (by simp; omega), List.take_take, Nat.min_self]
theorem halfP_splice (zp ns : List Int) (a b : Nat) (hab : a ≤ b) (hb : b ≤ zp.length) (h : zp.length = ns.length) : splice (halfP zp ns b) a (subL2 ns a b) = halfP zp ns a := by
  unfold splice halfP subL2
  apply List.ext_getElem?
  intro j
  simp only [List.getElem?_append, List.getElem?_take, List.getElem?_drop, List.length_take, List.length_append, List.length_drop]
  grind
theorem sub_nextM (zM g : List Int) (mom q : Int) (a b : Nat) : nextM (subL2 zM a b) (subL2 g a b) mom q = subL2 (nextM zM g mom q) a b := by
  unfold nextM addL scaleL subL2
  simp only [List.take_zipWith, List.drop_zipWith, List.map_take, List.map_drop]
theorem sub_nextP (zP m : List Int) (rate q : Int) (a b : Nat) : nextP (subL2 zP a b) (subL2 m a b) rate q = subL2 (nextP zP m rate q) a b := by
  unfold nextP subL scaleL subL2
  simp only [List.take_zipWith, List.drop_zipWith, List.map_take, List.map_drop]
set_option maxHeartbeats 1000000 in
theorem start13_apart (p : Value) (zp : List Int) (hp : zp.length * 8 ≤ 140737488351232) (w : World) (ip : IntsW .i64 w.heap.size w p zp) :
    Calls Try.prog 19 #[p] w (GivenApart zp (zeros zp.length) w) := by
  have HP := Lib.hid (fun W (h : Below w.heap.size w W) => vclone_w p zp hp w.heap.size W h.size (ip.below h))
  obtain ⟨a1, c1, rfl⟩ := ip.value
  have hmk := run_make_elem elemV .i64 .i64 zp.length (by omega) (by omega)
  have MZ := Lib.hid (fun W => made_zeros (w := W) (n := zp.length) (by unfold maxLen; omega))
  have AL := (Below.refl w.heap.size w).alloc (Nat.le_refl _) (.cells #[.slice none 0 0, .slice none 0 0] 31)
  have q01 := cells_two w (.slice none 0 0) (.slice none 0 0) 31
  have qf := World.frozen?_alloc_new w #[.slice none 0 0, .slice none 0 0] 31
  have hz : (w.alloc (.cells #[.slice none 0 0, .slice none 0 0] 31)).heap.size = w.heap.size + 1 := by simp
  clear ip
  go_enter Try.func19, Try.ntmps19
  go_wp2_with fail
  generalize w.alloc (.cells #[.slice none 0 0, .slice none 0 0] 31) = W0 at *
  generalize hN : w.heap.size = NN at *
  obtain ⟨q0, q1⟩ := q01
  have qf0 := qf 0
  have qf1 := qf 1
  clear qf
  refine wp_region_held_drew (S := fun w' => Below W0.heap.size W0 w' ∨ True) (by kernel_rfl) ?_ (fun hHeld => ?_)
  · exact .inr trivial
  refine wpAnyH_take (i := 0) (v := ?v1) rfl (by kernel_rfl) (by kernel_rfl) (by kernel_rfl) (fun _ _ _ h => h) (Or.inl ⟨by rfl, ?hy1⟩) (by assumption) ?rest1
  case hy1 => (intro w hSw; (try dsimp only at hSw); go_simp; (first | done | with_reducible rfl))
  simp only [Act.put, List.setIfInBounds_toArray, List.set_cons_zero, List.set_cons_succ, List.getElem_toArray, List.getElem_cons_zero]
  refine wpAnyH_take (i := 2) (v := ?v2) rfl (by kernel_rfl) (by kernel_rfl) (by kernel_rfl) (fun _ _ _ h => h) (Or.inl ⟨by rfl, ?hy2⟩) (by assumption) ?rest2
  case hy2 => (intro w hSw; (try dsimp only at hSw); go_simp; (first | done | with_reducible rfl))
  simp only [Act.put, List.setIfInBounds_toArray, List.set_cons_zero, List.set_cons_succ, List.getElem_toArray, List.getElem_cons_zero, List.getElem_cons_succ]
  refine wpAnyH_take (i := 3) (v := ?v3) rfl (by kernel_rfl) (by kernel_rfl) (by kernel_rfl) (fun _ _ _ h => h) (Or.inl ⟨by rfl, ?hy3⟩) (by assumption) ?rest3
  case hy3 => (intro w hSw; (try dsimp only at hSw); go_simp; (first | done | with_reducible rfl))
  simp only [Act.put, List.setIfInBounds_toArray, List.set_cons_zero, List.set_cons_succ, List.getElem_toArray, List.getElem_cons_zero, List.getElem_cons_succ]
  have B00 := (Below.refl W0.heap.size W0).drew
  refine wpAnyH_ready (rs := [1, 4]) (by kernel_rfl) (by simp) ?_
  refine AllReadyH.cons rfl (fun K hK => ?_) ?_
  · try simp only [Act.put, List.setIfInBounds_toArray, List.set_cons_zero, List.set_cons_succ, List.getElem_toArray, List.getElem_cons_zero, List.getElem_cons_succ]
    go_simp
    go_at_call 27
    refine (HP.out _ (AL.trans (B00.mono (by omega)))).mono ?_
    rintro e w5 ⟨vp, rfl, op, b5⟩
    have BW5 := below_step B00 b5
    obtain ⟨ap, cp, rfl⟩ := own_value op
    have OP := Lib.hid op
    clear op
    go_wp2_with fail
    refine hK.out _ _ (.inr trivial) (fun hHeld => ?_)
    clear hK K
    try simp only [Act.put, List.setIfInBounds_toArray, List.set_cons_zero, List.set_cons_succ, List.getElem_toArray, List.getElem_cons_zero, List.getElem_cons_succ]
    refine wpAnyH_ready (rs := [4]) (by kernel_rfl) (by simp) ?_
    refine AllReadyH.cons rfl (fun K hK => ?_) AllReadyH.nil
    simp only [List.getElem_toArray, List.getElem_cons_zero, List.getElem_cons_succ]
    go_simp
    have BW6 := BW5.alloc BW5.size (.cells (madeCells #[.int .i64 0] zp.length) 2)
    have OZ := Lib.hid (MZ.out w5)
    have al6 := (Below.refl w5.heap.size w5).alloc (Nat.le_refl _) (.cells (madeCells #[.int .i64 0] zp.length) 2)
    have OP6 := Lib.hid (own_below OP.out al6)
    have z5 := b5.size
    have zz : W0.drew.heap.size = W0.heap.size := rfl
    refine hK.out _ _ (.inr trivial) (fun hHeld => ?_)
    clear hK K
    try simp only [Act.put, List.setIfInBounds_toArray, List.set_cons_zero, List.set_cons_succ, List.getElem_toArray, List.getElem_cons_zero, List.getElem_cons_succ]
    generalize w5.alloc (.cells (madeCells #[.int .i64 0] zp.length) 2) = W6 at *
    refine wpAnyH_take (i := 5) (v := ?v4) rfl (by kernel_rfl) (by kernel_rfl) (by kernel_rfl) (fun _ _ _ h => h) (Or.inl ⟨by rfl, ?hy4⟩) (by assumption) ?rest4
    case hy4 => (intro w hSw; (try dsimp only at hSw); go_simp; (first | done | with_reducible rfl))
    simp only [Act.put, List.setIfInBounds_toArray, List.set_cons_zero, List.set_cons_succ, List.getElem_toArray, List.getElem_cons_zero, List.getElem_cons_succ]
    refine wpAnyH_ready (rs := [6]) (by kernel_rfl) (by simp) ?_
    refine AllReadyH.cons rfl (fun K hK => ?_) AllReadyH.nil
    simp only [List.getElem_toArray, List.getElem_cons_zero, List.getElem_cons_succ]
    have x0 := cell_step BW6 q0
    have x1 := cell_step BW6 q1
    have y0 := frozen_step BW6 q0 qf0
    have y1 := frozen_step BW6 q1 qf1
    have ST := stored2 (.slice ap zp.length cp) (.slice (some ⟨w5.heap.size, 0, none⟩) zp.length zp.length) x0 x1 y0 y1
    have RP := row_kept OP6.out (grown_trans (grown_set W6 NN 0 (.slice ap zp.length cp)) (grown_set _ NN 1 (.slice (some ⟨w5.heap.size, 0, none⟩) zp.length zp.length))) (by omega)
    have RM := row_kept OZ.out (grown_trans (grown_set W6 NN 0 (.slice ap zp.length cp)) (grown_set _ NN 1 (.slice (some ⟨w5.heap.size, 0, none⟩) zp.length zp.length))) (by omega)
    have HR := Lib.hid (And.intro (owns_mono (show NN ≤ W0.drew.heap.size by omega) RP) (owns_mono (show NN ≤ w5.heap.size by omega) RM))
    have HB := Lib.hid ((AL.trans (BW6.mono (by omega))).trans (ST.2.2.2.2.mono (Nat.le_refl NN)))
    have hs0 := ST.1
    have hs1 := ST.2.1
    clear RP RM ST
    go_simp
    refine hK.out _ _ (.inr trivial) (fun hHeld => ?_)
    clear hK K hHeld
    try simp only [Act.put, List.setIfInBounds_toArray, List.set_cons_zero, List.set_cons_succ, List.getElem_toArray, List.getElem_cons_zero, List.getElem_cons_succ]
    refine wpAnyH_done (by kernel_rfl) ?_ _
    go_wp2_with fail
    (try simp only [Exit.inBlock, Exit.then])
    refine bodyPost_ret (v := .agg #[.slice ap zp.length cp, .slice (some ⟨w5.heap.size, 0, none⟩) zp.length zp.length]) (by simp [results, Try.results19, hs0, hs1, go_sem]) rfl ?_
    unfold GivenApart
    rw [hN]
    refine ⟨_, _, rfl, HR.out.1, ?_, fun k e e2 => by have h1 := (OP.out.lt k e).2; have h2 : w5.heap.size = k := Option.some.inj e2; omega, HB.out⟩
    rw [zeros_length]
    exact HR.out.2
  refine AllReadyH.cons rfl (fun K hK => ?_) AllReadyH.nil
  try simp only [Act.put, List.setIfInBounds_toArray, List.set_cons_zero, List.set_cons_succ, List.getElem_toArray, List.getElem_cons_zero, List.getElem_cons_succ]
  go_simp
  have B01 := ((Below.refl W0.heap.size W0).alloc (Nat.le_refl _) (.cells (madeCells #[.int .i64 0] zp.length) 2)).drew
  have OZ := Lib.hid (own_below (MZ.out W0) (Below.refl _ _).drew)
  have z1 : (W0.alloc (.cells (madeCells #[.int .i64 0] zp.length) 2)).drew.heap.size = W0.heap.size + 1 := by simp
  rw [hz] at OZ
  refine hK.out _ _ (.inr trivial) (fun hHeld => ?_)
  clear hK K
  try simp only [Act.put, List.setIfInBounds_toArray, List.set_cons_zero, List.set_cons_succ, List.getElem_toArray, List.getElem_cons_zero, List.getElem_cons_succ]
  generalize (W0.alloc (.cells (madeCells #[.int .i64 0] zp.length) 2)).drew = W1 at *
  refine wpAnyH_ready (rs := [1]) (by kernel_rfl) (by simp) ?_
  refine AllReadyH.cons rfl (fun K hK => ?_) AllReadyH.nil
  simp only [List.getElem_toArray, List.getElem_cons_zero, List.getElem_cons_succ]
  go_simp
  go_at_call 27
  refine (HP.out _ (AL.trans (B01.mono (by omega)))).mono ?_
  rintro e w5 ⟨vp, rfl, op, b5⟩
  have BW6 := below_step B01 b5
  obtain ⟨ap, cp, rfl⟩ := own_value op
  have OP6 := Lib.hid op
  have OZ6 := Lib.hid (own_below OZ.out b5)
  have z5 := b5.size
  clear op
  go_wp2_with fail
  refine hK.out _ _ (.inr trivial) (fun hHeld => ?_)
  clear hK K
  try simp only [Act.put, List.setIfInBounds_toArray, List.set_cons_zero, List.set_cons_succ, List.getElem_toArray, List.getElem_cons_zero, List.getElem_cons_succ]
  refine wpAnyH_take (i := 5) (v := ?v5) rfl (by kernel_rfl) (by kernel_rfl) (by kernel_rfl) (fun _ _ _ h => h) (Or.inl ⟨by rfl, ?hy5⟩) (by assumption) ?rest5
  case hy5 => (intro w hSw; (try dsimp only at hSw); go_simp; (first | done | with_reducible rfl))
  simp only [Act.put, List.setIfInBounds_toArray, List.set_cons_zero, List.set_cons_succ, List.getElem_toArray, List.getElem_cons_zero, List.getElem_cons_succ]
  refine wpAnyH_ready (rs := [6]) (by kernel_rfl) (by simp) ?_
  refine AllReadyH.cons rfl (fun K hK => ?_) AllReadyH.nil
  simp only [List.getElem_toArray, List.getElem_cons_zero, List.getElem_cons_succ]
  have x0 := cell_step BW6 q0
  have x1 := cell_step BW6 q1
  have y0 := frozen_step BW6 q0 qf0
  have y1 := frozen_step BW6 q1 qf1
  have ST := stored2 (.slice ap zp.length cp) (.slice (some ⟨NN + 1, 0, none⟩) zp.length zp.length) x0 x1 y0 y1
  have RP := row_kept OP6.out (grown_trans (grown_set w5 NN 0 (.slice ap zp.length cp)) (grown_set _ NN 1 (.slice (some ⟨NN + 1, 0, none⟩) zp.length zp.length))) (by omega)
  have RM := row_kept OZ6.out (grown_trans (grown_set w5 NN 0 (.slice ap zp.length cp)) (grown_set _ NN 1 (.slice (some ⟨NN + 1, 0, none⟩) zp.length zp.length))) (by omega)
  have HR := Lib.hid (And.intro (owns_mono (show NN ≤ W1.heap.size by omega) RP) (owns_mono (show NN ≤ NN + 1 by omega) RM))
  have HB := Lib.hid ((AL.trans (BW6.mono (by omega))).trans (ST.2.2.2.2.mono (Nat.le_refl NN)))
  have hs0 := ST.1
  have hs1 := ST.2.1
  clear RP RM ST
  go_simp
  refine hK.out _ _ (.inr trivial) (fun hHeld => ?_)
  clear hK K hHeld
  try simp only [Act.put, List.setIfInBounds_toArray, List.set_cons_zero, List.set_cons_succ, List.getElem_toArray, List.getElem_cons_zero, List.getElem_cons_succ]
  refine wpAnyH_done (by kernel_rfl) ?_ _
  go_wp2_with fail
  (try simp only [Exit.inBlock, Exit.then])
  refine bodyPost_ret (v := .agg #[.slice ap zp.length cp, .slice (some ⟨NN + 1, 0, none⟩) zp.length zp.length]) (by simp [results, Try.results19, hs0, hs1, go_sem]) rfl ?_
  unfold GivenApart
  rw [hN]
  refine ⟨_, _, rfl, HR.out.1, ?_, fun k e e2 => by have h1 := (OP6.out.lt k e).1; have h2 : NN + 1 = k := Option.some.inj e2; omega, HB.out⟩
  rw [zeros_length]
  exact HR.out.2
end Go.Proofs.Ytmffgbmjomaehaa
