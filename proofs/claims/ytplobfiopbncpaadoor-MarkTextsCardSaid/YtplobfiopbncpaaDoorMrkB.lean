/- Layer 16: the closure of Of. -/
import Derived.Test.YtplobfiopbncpaaDoorMrkA
import Derived.Deep.RegionHeld3
import Derived.Deep.Cut
namespace Go.Proofs.YtplobfiopbncpaaDoor
open Go.RowKit
set_option linter.unusedVariables false
attribute [local go_sem] run_store_complex
/-- the box E holds the whole complex number with the parts x and y -/
def BoxC (E : Nat) (x y : Int) (w : World) : Prop := (∃ re im, w.cell? ⟨E, 0, none⟩ = some (.complex .f64 re im) ∧ IsF re x ∧ IsF im y) ∧ w.frozen? ⟨E, 0, none⟩ = false
set_option maxHeartbeats 4000000 in
theorem add_any (E : Nat) (k : Nat) (hk : k ≤ 1152921504606846976) (v X Y : Int) (hX : X.natAbs ≤ 1125899906842624) (hY : Y.natAbs ≤ 1125899906842624) (w : World) (h : BoxC E X Y w) :
    Calls Tryd.prog 26 #[.int .i64 k, .int .i64 v, .pointer (some ⟨E, 0, none⟩)] w fun e w' => e = .returned (.tuple #[]) ∧ BoxC E (X + trnR (lowI v) 0 k) (Y + trnI (lowI v) 0 k) w' ∧ Below E w w' := by
  obtain ⟨⟨re, im, hc, hre, him⟩, hf⟩ := h
  have hEw : E < w.heap.size := World.block_lt_of_cell? _ _ hc
  have lo := lowI_le v
  have HL := Lib.hid (fun W => low_any v W)
  have HFI := ofInt_isF (lowI v) (by omega)
  have HJ := Lib.hid (fun W => join_any re im (floatOfInt .f64 (lowI v)) 0 X Y (lowI v) 0 k hre him HFI isF0 hX hY (by omega) (by decide) (by omega) W)
  generalize lowI v = lv at *
  go_enter Tryd.func26, Tryd.ntmps26
  go_upto_region 0 with fail
  refine wp_region_held_drew (S := fun _ => True) (by kernel_rfl) trivial (fun hHeld => ?_)
  have D0 := (Below.refl w.heap.size w).drew
  have c0 := cell_step D0 hc
  have f0 := frozen_step D0 hc hf
  clear hc hf
  generalize w.drew = w0 at *
  refine wpAnyH_take (i := 1) (v := ?v1) rfl (by kernel_rfl) (by kernel_rfl) (by kernel_rfl) (fun _ _ _ h => h) (Or.inl ⟨by rfl, ?hy1⟩) (by assumption) ?rest1
  case hy1 => (intro w hSw; (try dsimp only at hSw); go_simp; (first | done | with_reducible rfl))
  simp only [Act.put, List.setIfInBounds_toArray, List.set_cons_zero, List.set_cons_succ, List.getElem_toArray, List.getElem_cons_zero, List.getElem_cons_succ]
  refine wpAnyH_take (i := 2) (v := ?v2) rfl (by kernel_rfl) (by kernel_rfl) (by kernel_rfl) (fun _ _ _ h => h) (Or.inl ⟨by rfl, ?hy2⟩) (by assumption) ?rest2
  case hy2 => (intro w hSw; (try dsimp only at hSw); go_simp; (first | done | with_reducible rfl))
  simp only [Act.put, List.setIfInBounds_toArray, List.set_cons_zero, List.set_cons_succ, List.getElem_toArray, List.getElem_cons_zero, List.getElem_cons_succ]
  refine wpAnyH_ready (rs := [0, 3]) (by kernel_rfl) (by simp) ?_
  refine AllReadyH.cons rfl (fun K hK => ?_) (AllReadyH.cons rfl (fun K hK => ?_) AllReadyH.nil)
  · try simp only [Act.put, List.setIfInBounds_toArray, List.set_cons_zero, List.set_cons_succ, List.getElem_toArray, List.getElem_cons_zero]
    go_simp
    refine hK.out _ _ trivial (fun hHeld => ?_)
    clear hK K
    try simp only [Act.put, List.setIfInBounds_toArray, List.set_cons_zero, List.set_cons_succ, List.getElem_toArray, List.getElem_cons_zero, List.getElem_cons_succ]
    refine wpAnyH_ready (rs := [3]) (by kernel_rfl) (by simp) ?_
    refine AllReadyH.cons rfl (fun K hK => ?_) AllReadyH.nil
    simp only [List.getElem_toArray, List.getElem_cons_zero, List.getElem_cons_succ]
    go_simp
    go_at_call 13
    refine (HL.out w0).mono ?_
    rintro e w1 ⟨rfl, b1⟩
    have c1 := cell_step b1 c0
    have f1 := frozen_step b1 c0 f0
    have D1 := D0.trans (b1.mono D0.size)
    clear D0 c0 f0 b1 HL
    go_wp2_with fail
    refine hK.out _ _ trivial (fun hHeld => ?_)
    clear hK K
    try simp only [Act.put, List.setIfInBounds_toArray, List.set_cons_zero, List.set_cons_succ, List.getElem_toArray, List.getElem_cons_zero, List.getElem_cons_succ]
    refine wpAnyH_take (i := 4) (v := ?v3) rfl (by kernel_rfl) (by kernel_rfl) (by kernel_rfl) (fun _ _ _ h => h) (Or.inl ⟨by rfl, ?hy3⟩) (by assumption) ?rest3
    case hy3 => (intro w hSw; (try dsimp only at hSw); go_simp; (first | done | with_reducible rfl))
    simp only [Act.put, List.setIfInBounds_toArray, List.set_cons_zero, List.set_cons_succ, List.getElem_toArray, List.getElem_cons_zero, List.getElem_cons_succ]
    generalize floatOfInt .f64 lv = fl at *
    refine wpAnyH_take (i := 5) (v := ?v4) rfl (by kernel_rfl) (by kernel_rfl) (by kernel_rfl) (fun _ _ _ h => h) (Or.inl ⟨by rfl, ?hy4⟩) (by assumption) ?rest4
    case hy4 => (intro w hSw; (try dsimp only at hSw); go_simp; (first | done | with_reducible rfl))
    simp only [Act.put, List.setIfInBounds_toArray, List.set_cons_zero, List.set_cons_succ, List.getElem_toArray, List.getElem_cons_zero, List.getElem_cons_succ]
    refine wpAnyH_ready (rs := [6]) (by kernel_rfl) (by simp) ?_
    refine AllReadyH.cons rfl (fun K hK => ?_) AllReadyH.nil
    simp only [List.getElem_toArray, List.getElem_cons_zero, List.getElem_cons_succ]
    go_simp
    go_at_call 21
    refine (HJ.out w1).mono ?_
    rintro e w2 ⟨⟨ra, ia, rfl, fa, fb⟩, b2⟩
    have c2 := cell_step b2 c1
    have f2 := frozen_step b2 c1 f1
    have D2 := D1.trans (b2.mono D1.size)
    clear D1 c1 f1 b2 HJ
    go_wp2_with fail
    refine hK.out _ _ trivial (fun hHeld => ?_)
    clear hK K
    try simp only [Act.put, List.setIfInBounds_toArray, List.set_cons_zero, List.set_cons_succ, List.getElem_toArray, List.getElem_cons_zero, List.getElem_cons_succ]
    refine wpAnyH_ready (rs := [7]) (by kernel_rfl) (by simp) ?_
    refine AllReadyH.cons rfl (fun K hK => ?_) AllReadyH.nil
    simp only [List.getElem_toArray, List.getElem_cons_zero, List.getElem_cons_succ]
    go_simp
    refine hK.out _ _ trivial (fun hHeld => ?_)
    clear hK K
    try simp only [Act.put, List.setIfInBounds_toArray, List.set_cons_zero, List.set_cons_succ, List.getElem_toArray, List.getElem_cons_zero, List.getElem_cons_succ]
    refine wpAnyH_done (by kernel_rfl) ?_ _
    have c3 := World.cell?_setCell_same w2 ⟨E, 0, none⟩ (.complex .f64 ra ia) c2
    have f3 := (World.frozen?_setCell w2 ⟨E, 0, none⟩ ⟨E, 0, none⟩ (.complex .f64 ra ia)).trans f2
    have B3 := below_set (o := 0) (x := .complex .f64 ra ia) (D2.mono (by omega : E ≤ w.heap.size)) (Nat.le_refl E)
    generalize w2.setCell ⟨E, 0, none⟩ (.complex .f64 ra ia) = w3 at *
    go_wp2_with fail
    go_end0
    exact ⟨rfl, ⟨⟨ra, ia, c3, fa, fb⟩, f3⟩, B3⟩
  · try simp only [Act.put, List.setIfInBounds_toArray, List.set_cons_zero, List.set_cons_succ, List.getElem_toArray, List.getElem_cons_zero, List.getElem_cons_succ]
    go_simp
    go_at_call 13
    refine (HL.out w0).mono ?_
    rintro e w1 ⟨rfl, b1⟩
    have c1 := cell_step b1 c0
    have f1 := frozen_step b1 c0 f0
    have D1 := D0.trans (b1.mono D0.size)
    clear D0 c0 f0 b1 HL
    go_wp2_with fail
    refine hK.out _ _ trivial (fun hHeld => ?_)
    clear hK K
    try simp only [Act.put, List.setIfInBounds_toArray, List.set_cons_zero, List.set_cons_succ, List.getElem_toArray, List.getElem_cons_zero, List.getElem_cons_succ]
    refine wpAnyH_take (i := 4) (v := ?v5) rfl (by kernel_rfl) (by kernel_rfl) (by kernel_rfl) (fun _ _ _ h => h) (Or.inl ⟨by rfl, ?hy5⟩) (by assumption) ?rest5
    case hy5 => (intro w hSw; (try dsimp only at hSw); go_simp; (first | done | with_reducible rfl))
    simp only [Act.put, List.setIfInBounds_toArray, List.set_cons_zero, List.set_cons_succ, List.getElem_toArray, List.getElem_cons_zero, List.getElem_cons_succ]
    generalize floatOfInt .f64 lv = fl at *
    refine wpAnyH_take (i := 5) (v := ?v6) rfl (by kernel_rfl) (by kernel_rfl) (by kernel_rfl) (fun _ _ _ h => h) (Or.inl ⟨by rfl, ?hy6⟩) (by assumption) ?rest6
    case hy6 => (intro w hSw; (try dsimp only at hSw); go_simp; (first | done | with_reducible rfl))
    simp only [Act.put, List.setIfInBounds_toArray, List.set_cons_zero, List.set_cons_succ, List.getElem_toArray, List.getElem_cons_zero, List.getElem_cons_succ]
    refine wpAnyH_ready (rs := [0]) (by kernel_rfl) (by simp) ?_
    refine AllReadyH.cons rfl (fun K hK => ?_) AllReadyH.nil
    simp only [List.getElem_toArray, List.getElem_cons_zero]
    go_simp
    refine hK.out _ _ trivial (fun hHeld => ?_)
    clear hK K
    try simp only [Act.put, List.setIfInBounds_toArray, List.set_cons_zero, List.set_cons_succ, List.getElem_toArray, List.getElem_cons_zero, List.getElem_cons_succ]
    refine wpAnyH_ready (rs := [6]) (by kernel_rfl) (by simp) ?_
    refine AllReadyH.cons rfl (fun K hK => ?_) AllReadyH.nil
    simp only [List.getElem_toArray, List.getElem_cons_zero, List.getElem_cons_succ]
    go_simp
    go_at_call 21
    refine (HJ.out w1).mono ?_
    rintro e w2 ⟨⟨ra, ia, rfl, fa, fb⟩, b2⟩
    have c2 := cell_step b2 c1
    have f2 := frozen_step b2 c1 f1
    have D2 := D1.trans (b2.mono D1.size)
    clear D1 c1 f1 b2 HJ
    go_wp2_with fail
    refine hK.out _ _ trivial (fun hHeld => ?_)
    clear hK K
    try simp only [Act.put, List.setIfInBounds_toArray, List.set_cons_zero, List.set_cons_succ, List.getElem_toArray, List.getElem_cons_zero, List.getElem_cons_succ]
    refine wpAnyH_ready (rs := [7]) (by kernel_rfl) (by simp) ?_
    refine AllReadyH.cons rfl (fun K hK => ?_) AllReadyH.nil
    simp only [List.getElem_toArray, List.getElem_cons_zero, List.getElem_cons_succ]
    go_simp
    refine hK.out _ _ trivial (fun hHeld => ?_)
    clear hK K
    try simp only [Act.put, List.setIfInBounds_toArray, List.set_cons_zero, List.set_cons_succ, List.getElem_toArray, List.getElem_cons_zero, List.getElem_cons_succ]
    refine wpAnyH_done (by kernel_rfl) ?_ _
    have c3 := World.cell?_setCell_same w2 ⟨E, 0, none⟩ (.complex .f64 ra ia) c2
    have f3 := (World.frozen?_setCell w2 ⟨E, 0, none⟩ ⟨E, 0, none⟩ (.complex .f64 ra ia)).trans f2
    have B3 := below_set (o := 0) (x := .complex .f64 ra ia) (D2.mono (by omega : E ≤ w.heap.size)) (Nat.le_refl E)
    generalize w2.setCell ⟨E, 0, none⟩ (.complex .f64 ra ia) = w3 at *
    go_wp2_with fail
    go_end0
    exact ⟨rfl, ⟨⟨ra, ia, c3, fa, fb⟩, f3⟩, B3⟩
end Go.Proofs.YtplobfiopbncpaaDoor
