/- Layer 6: the exchange that keeps the places, Draws. -/
import Derived.Test.YtanfdajllhlcbaaPrmN
import Derived.BigRegion
import Derived.Deep.Cut
namespace Go.Proofs.Ytanfdajllhlcbaa
open Go.RowKit
set_option linter.unusedVariables false
set_option maxHeartbeats 2000000 in
theorem exchange2_any (B1 B2 g1 g2 n c1 c2 base i j x y : Nat) (L : List Int) (hL : Perm L) (hn : L.length = n) (hi : i < n) (hj : j < n) (hx : L[i]?.getD 0 = (x : Int)) (hy : L[j]?.getD 0 = (y : Int)) (hn20 : n ≤ 1048576) (w : World)
    (ne1 : B1 ≠ g1) (ne2 : B2 ≠ g1) (ne3 : g2 ≠ g1) (ne4 : B1 ≠ g2) (ne5 : B2 ≠ g2)
    (hb1 : w.cell? ⟨B1, 0, none⟩ = some (.slice (some ⟨g1, 0, none⟩) n c1)) (hb2 : w.cell? ⟨B2, 0, none⟩ = some (.slice (some ⟨g2, 0, none⟩) n c2))
    (o1 : w.ownsRow base 3 1 (.slice (some ⟨g1, 0, none⟩) n c1) n (L.map (Value.int .i64))) (o2 : w.ownsRow base 3 1 (.slice (some ⟨g2, 0, none⟩) n c2) n ((invL L).map (Value.int .i64))) :
    Calls Try.prog 33 #[.int .i64 i, .int .i64 j, .pointer (some ⟨B1, 0, none⟩), .pointer (some ⟨B2, 0, none⟩)] w fun e w' => e = .returned (.tuple #[]) ∧ ∃ W1, w.grownBy W1 (some g1) ∧ W1.grownBy w' (some g2) ∧
      w'.ownsRow base 3 1 (.slice (some ⟨g1, 0, none⟩) n c1) n ((swapL L i j).map (Value.int .i64)) ∧ w'.ownsRow base 3 1 (.slice (some ⟨g2, 0, none⟩) n c2) n ((invL (swapL L i j)).map (Value.int .i64)) := by
  have hB1 := World.block_lt_of_cell? _ _ hb1
  have hB2 := World.block_lt_of_cell? _ _ hb2
  have i0 : (0 : Int) ≤ (i : Int) := by omega
  have i1 : (i : Int) < (n : Int) := by omega
  have j0 : (0 : Int) ≤ (j : Int) := by omega
  have j1 : (j : Int) < (n : Int) := by omega
  have hxi : L[i]? = some (x : Int) := by rw [getD_of (by omega)] at hx; rw [List.getElem?_eq_getElem (by omega), hx]
  have hyj : L[j]? = some (y : Int) := by rw [getD_of (by omega)] at hy; rw [List.getElem?_eq_getElem (by omega), hy]
  have hxl : x < n := by have := hL.1 i (by omega); rw [← getD_of (show i < L.length by omega), hx] at this; omega
  have hyl : y < n := by have := hL.1 j (by omega); rw [← getD_of (show j < L.length by omega), hy] at this; omega
  have ci := (o1.cellAt i (by omega)).trans (by rw [List.getElem?_map, hxi]; rfl : _ = some (Value.int .i64 x))
  have cj := (o1.cellAt j (by omega)).trans (by rw [List.getElem?_map, hyj]; rfl : _ = some (Value.int .i64 y))
  have fi := o1.frozenAt i
  have fj := o1.frozenAt j
  have HI := Lib.hid (inv_swap hL (i := i) (j := j) (by omega) (by omega) hx hy)
  have HSW := Lib.hid (show ((L.map (Value.int .i64)).set i (.int .i64 y)).set j (.int .i64 x) = (swapL L i j).map (Value.int .i64) by
    unfold swapL
    rw [hxi, hyj, Option.getD_some, Option.getD_some, List.map_set, List.map_set])
  have hlen2 : (invL L).length = n := by rw [invL_length, hn]
  have O1 := Lib.hid o1
  have O2 := Lib.hid o2
  have hg := World.block_lt_of_cell? _ _ ci
  have st1 := o1.stored i (.int .i64 y)
  have st2 := st1.1.stored j (.int .i64 x)
  rw [HSW.out] at st2
  have P1 := Lib.hid st2.1.drew
  have G1 := Lib.hid (grown_trans (grown_trans st1.2 st2.2) (grown_below (Below.refl _ _).drew (some g1)))
  have HSL := Lib.hid (show (swapL L i j)[i]? = some (y : Int) ∧ (swapL L i j)[j]? = some (x : Int) by
    have e1 : i < (swapL L i j).length := by rw [swapL_length]; omega
    have e2 : j < (swapL L i j).length := by rw [swapL_length]; omega
    rw [List.getElem?_eq_getElem e1, List.getElem?_eq_getElem e2, swapL_get _ _ _ _ (by omega) (by omega), swapL_get _ _ _ _ (by omega) (by omega), ← getD_of (show i < L.length by omega), ← getD_of (show j < L.length by omega), hx, hy]
    refine ⟨?_, by rw [if_pos rfl]⟩
    by_cases e : i = j
    · subst e; rw [if_pos rfl]; rw [hx] at hy; rw [hy]
    · rw [if_neg e, if_pos rfl])
  clear o1 o2 st1 st2 hx hy hxi hyj hL
  have hb1' := (World.cell?_setCell_other w ⟨g1, i, none⟩ ⟨B1, 0, none⟩ (.int .i64 y) (by simp)).trans hb1
  obtain ⟨z, cz⟩ : ∃ z, (w.setCell ⟨g1, i, none⟩ (.int .i64 y)).cell? ⟨g1, j, none⟩ = some z := by
    by_cases e : j = i
    · subst e; exact ⟨_, World.cell?_setCell_same _ _ _ ci⟩
    · exact ⟨_, (World.cell?_setCell_other _ _ _ _ (by simp)).trans cj⟩
  go_enter Try.func33, Try.ntmps33
  go_wp2_with fail
  go_region
  go_upto_region 1 with fail
  clear ci cj fi fj cz hb1'
  have c1 := (grown_cell (o := 0) G1.out hB1 ne1).trans hb1
  have c2 := (grown_cell (o := 0) G1.out hB2 ne2).trans hb2
  have hg2 : g2 < w.heap.size := (O2.out.lt g2 rfl).2
  have Q2 := Lib.hid (O2.out.kept G1.out (.inr (by simpa [Value.ownBlock] using ne3)))
  generalize ((w.setCell ⟨g1, i, none⟩ (.int .i64 y)).setCell ⟨g1, j, none⟩ (.int .i64 x)).drew = W1 at *
  have ci := (P1.out.cellAt i (by omega)).trans (by rw [List.getElem?_map, HSL.out.1]; rfl : _ = some (Value.int .i64 y))
  have cj := (P1.out.cellAt j (by omega)).trans (by rw [List.getElem?_map, HSL.out.2]; rfl : _ = some (Value.int .i64 x))
  have fx := Q2.out.frozenAt x
  have fy := Q2.out.frozenAt y
  obtain ⟨vx, cx⟩ : ∃ v, W1.cell? ⟨g2, x, none⟩ = some v := ⟨_, (Q2.out.cellAt x (by omega)).trans (List.getElem?_eq_getElem (by rw [List.length_map, hlen2]; exact hxl))⟩
  obtain ⟨vy, cy⟩ : ∃ v, W1.cell? ⟨g2, y, none⟩ = some v := ⟨_, (Q2.out.cellAt y (by omega)).trans (List.getElem?_eq_getElem (by rw [List.length_map, hlen2]; exact hyl))⟩
  have hB1' := World.block_lt_of_cell? _ _ c1
  have hB2' := World.block_lt_of_cell? _ _ c2
  have hg1' := World.block_lt_of_cell? _ _ ci
  have hg2' := World.block_lt_of_cell? _ _ cx
  have x0 : (0 : Int) ≤ (x : Int) := by omega
  have x1 : (x : Int) < (n : Int) := by omega
  have y0 : (0 : Int) ≤ (y : Int) := by omega
  have y1 : (y : Int) < (n : Int) := by omega
  have st1 := Q2.out.stored y (.int .i64 (i : Int))
  have st2 := st1.1.stored x (.int .i64 (j : Int))
  rw [show (((invL L).map (Value.int .i64)).set y (.int .i64 (i : Int))).set x (.int .i64 (j : Int)) = (invL (swapL L i j)).map (Value.int .i64) by rw [← HI.out, List.map_set, List.map_set]] at st2
  have R2 := Lib.hid st2.1.drew
  have G2 := Lib.hid (grown_trans (grown_trans st1.2 st2.2) (grown_below (Below.refl _ _).drew (some g2)))
  have R1 := Lib.hid (P1.out.kept G2.out (.inr (by simpa [Value.ownBlock] using ne3.symm)))
  have cb1 := (World.cell?_setCell_other W1 ⟨g2, y, none⟩ ⟨B1, 0, none⟩ (.int .i64 (i : Int)) (by simp)).trans c1
  have cb2 := (World.cell?_setCell_other W1 ⟨g2, y, none⟩ ⟨B2, 0, none⟩ (.int .i64 (i : Int)) (by simp)).trans c2
  have cj' := (World.cell?_setCell_other W1 ⟨g2, y, none⟩ ⟨g1, j, none⟩ (.int .i64 (i : Int)) (by simp)).trans cj
  obtain ⟨z, cz⟩ : ∃ z, (W1.setCell ⟨g2, y, none⟩ (.int .i64 (i : Int))).cell? ⟨g2, x, none⟩ = some z := by
    by_cases e : x = y
    · subst e; exact ⟨_, World.cell?_setCell_same _ _ _ cx⟩
    · exact ⟨_, (World.cell?_setCell_other _ _ _ _ (by simp)).trans cx⟩
  clear st1 st2
  go_region
  go_wp2_with fail
  go_end0
  exact ⟨rfl, _, G1.out, G2.out, R1.out, R2.out⟩
end Go.Proofs.Ytanfdajllhlcbaa
