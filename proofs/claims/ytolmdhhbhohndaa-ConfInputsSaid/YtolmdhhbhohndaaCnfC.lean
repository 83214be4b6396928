/- Layer 11: alive, ConfChecks. -/
import Derived.Test.YtolmdhhbhohndaaCnfB
namespace Go.Proofs.Ytolmdhhbhohndaa
open Go.RowKit
set_option linter.unusedVariables false
theorem alive_any (w : World) : Calls Try.prog 6 #[] w fun e w' => e = .returned (.bool true) ∧ Below w.heap.size w w' := by
  have H := Lib.hid (checkC_any (.slice none 0 0) [] (by decide) 99 0 0 0 0 0 0 0 0 0 0 w (.inr IntsAt.nil))
  rw [show codeC [] 99 0 0 0 0 0 0 0 0 = 6 from rfl] at H
  go_enter Try.func6, Try.ntmps6
  go_wp2_with fail
  refine H.out.mono ?_
  rintro e w1 ⟨rfl, b1⟩
  go_wp2_with fail
  go_ret
  exact ⟨by first | rfl | (simp; done), b1⟩
set_option maxHeartbeats 2000000 in
theorem walk_checks (v : Value) (ss : List Int) (hm : ss.length ≤ maxLen) (sh ra mo wk ba mi st bu ch wi ca x : Int) (w : World) (hv : IntsW .i64 w.heap.size w v ss) :
    Calls Try.prog 3 #[.agg #[v, .int .i64 sh, .int .i64 ra, .int .i64 mo, .int .i64 wk, .int .i64 ba, .int .i64 mi, .int .i64 st, .int .i64 bu, .int .i64 ch, .int .i64 wi, .int .i64 ca], .int .i64 x] w fun e w' => e = .returned (.bool true) ∧ Below w.heap.size w w' := by
  have AL := (Below.refl w.heap.size w).alloc (Nat.le_refl _) (.cells #[v, .int .i64 sh, .int .i64 ra, .int .i64 mo, .int .i64 wk, .int .i64 ba, .int .i64 mi, .int .i64 st, .int .i64 bu, .int .i64 ch, .int .i64 wi, .int .i64 ca] 24)
  have C0 := Lib.hid (CellsAt.new w #[v, .int .i64 sh, .int .i64 ra, .int .i64 mo, .int .i64 wk, .int .i64 ba, .int .i64 mi, .int .i64 st, .int .i64 bu, .int .i64 ch, .int .i64 wi, .int .i64 ca] 24)
  have V0 := Lib.hid (hv.later AL)
  have VW := Lib.hid hv
  have A0 := Lib.hid AL
  obtain ⟨a, c, rfl⟩ := hv.value
  have HK := Lib.hid (fun ra mo W h => checkC_any (.slice a ss.length c) ss hm sh ra mo wk ba mi st bu ch wi ca W h)
  have HR := Lib.hid (fun ra mo W h => refCheckC_any (.slice a ss.length c) ss hm sh ra mo wk ba mi st bu ch wi ca W h)
  clear hv AL
  unfold maxLen at hm
  by_cases h1 : 40 < (ss.length : Int)
  · have g1 : decide (40 < (ss.length : Int)) = true := by simpa using h1
    have g1' : 40 < ss.length := by omega
    go_enter Try.func3, Try.ntmps3
    go_wp2_with fail
    refine (alive_any _).mono ?_
    rintro e w1 ⟨rfl, b1⟩
    have B1 := Lib.hid (below_step A0.out b1)
    clear b1
    go_wp2_with fail
    go_ret
    exact ⟨rfl, B1.out⟩
  · have g1 : decide (40 < (ss.length : Int)) = false := by simpa using h1
    have g1' : ¬ 40 < ss.length := by omega
    generalize codeC ss sh wk ba mi st bu ch wi ca = cd at *
    go_enter Try.func3, Try.ntmps3
    go_wp2_with fail
    refine (HK.out ra mo _ V0.out).mono ?_
    rintro e w1 ⟨rfl, b1⟩
    have B1 := Lib.hid (below_step A0.out b1)
    have C1 := Lib.hid (C0.out.later b1)
    have V1 := Lib.hid (V0.out.later b1)
    clear b1 C0 V0 A0
    have c0 := C1.out.2 0 _ rfl
    have c1 := C1.out.2 1 _ rfl
    have c2 := C1.out.2 2 _ rfl
    have c3 := C1.out.2 3 _ rfl
    have c4 := C1.out.2 4 _ rfl
    have c5 := C1.out.2 5 _ rfl
    have c6 := C1.out.2 6 _ rfl
    have c7 := C1.out.2 7 _ rfl
    have c8 := C1.out.2 8 _ rfl
    have c9 := C1.out.2 9 _ rfl
    have c10 := C1.out.2 10 _ rfl
    have c11 := C1.out.2 11 _ rfl
    have hwb : w.heap.size < w1.heap.size := C1.out.1
    have al := (Below.refl w1.heap.size w1).alloc (Nat.le_refl _) (.cells #[.slice a ss.length c, .int .i64 sh, .int .i64 ra, .int .i64 mo, .int .i64 wk, .int .i64 ba, .int .i64 mi, .int .i64 st, .int .i64 bu, .int .i64 ch, .int .i64 wi, .int .i64 ca] 24)
    have D0 := CellsAt.new w1 #[.slice a ss.length c, .int .i64 sh, .int .i64 ra, .int .i64 mo, .int .i64 wk, .int .i64 ba, .int .i64 mi, .int .i64 st, .int .i64 bu, .int .i64 ch, .int .i64 wi, .int .i64 ca] 24
    have C2 := Lib.hid (C1.out.later al)
    have V2 := Lib.hid (V1.out.later al)
    have B2 := Lib.hid (below_step B1.out al)
    have F2 := World.frozen?_alloc_new w1 #[.slice a ss.length c, .int .i64 sh, .int .i64 ra, .int .i64 mo, .int .i64 wk, .int .i64 ba, .int .i64 mi, .int .i64 st, .int .i64 bu, .int .i64 ch, .int .i64 wi, .int .i64 ca] 24
    have f2 := F2 2
    have f3 := F2 3
    have HD := Lib.hid D0
    clear al C1 V1 B1 F2 D0
    go_upto_region 5 with fail
    clear c0 c1 c2 c3 c4 c5 c6 c7 c8 c9 c10 c11
    generalize (w1.alloc (.cells #[.slice a ss.length c, .int .i64 sh, .int .i64 ra, .int .i64 mo, .int .i64 wk, .int .i64 ba, .int .i64 mi, .int .i64 st, .int .i64 bu, .int .i64 ch, .int .i64 wi, .int .i64 ca] 24)) = W at *
    generalize w1.heap.size = U at *
    have d2 := HD.out.2 2 _ rfl
    have d3 := HD.out.2 3 _ rfl
    obtain ⟨y, hy⟩ : ∃ y, IntKind.i64.wrap (-x) = y := ⟨_, rfl⟩
    have fcs : ∀ (W0 : World) (i j : Nat) (z : Value), i ≠ j → (W0.setCell ⟨U, i, none⟩ z).cell? ⟨U, j, none⟩ = W0.cell? ⟨U, j, none⟩ := fun W0 i j z hij => World.cell?_setCell_other W0 _ _ _ (by intro e; cases e; exact hij rfl)
    have HD2 : CellsAt U ((W.setCell ⟨U, 2, none⟩ (.int .i64 x)).setCell ⟨U, 3, none⟩ (.int .i64 y)) #[.slice a ss.length c, .int .i64 sh, .int .i64 x, .int .i64 y, .int .i64 wk, .int .i64 ba, .int .i64 mi, .int .i64 st, .int .i64 bu, .int .i64 ch, .int .i64 wi, .int .i64 ca].toList := by
      refine ⟨by have := HD.out.1; simpa [World.setCell] using this, fun j z hj => ?_⟩
      by_cases e2 : j = 2
      · subst e2; cases hj; rw [fcs _ 3 2 _ (by omega)]; exact World.cell?_setCell_same _ _ _ d2
      · by_cases e3 : j = 3
        · subst e3; cases hj; exact World.cell?_setCell_same _ _ _ (by rw [fcs _ 2 3 _ (by omega)]; exact d3)
        · rw [fcs _ 3 j _ (by omega), fcs _ 2 j _ (by omega)]
          refine HD.out.2 j z ?_
          match j, e2, e3, hj with
          | 0, _, _, hj => exact hj
          | 1, _, _, hj => exact hj
          | j + 4, _, _, hj => exact hj
    have gS := grown_trans (grown_set W U 2 (.int .i64 x)) (grown_set _ U 3 (.int .i64 y))
    have hUw : w.heap.size < U := hwb
    have B3 := Lib.hid (B2.out.grown gS B2.out.size (fun q e => by cases e; omega))
    have HD3 := Lib.hid HD2
    have C3 : CellsAt w.heap.size ((W.setCell ⟨U, 2, none⟩ (.int .i64 x)).setCell ⟨U, 3, none⟩ (.int .i64 y)) #[.slice a ss.length c, .int .i64 sh, .int .i64 ra, .int .i64 mo, .int .i64 wk, .int .i64 ba, .int .i64 mi, .int .i64 st, .int .i64 bu, .int .i64 ch, .int .i64 wi, .int .i64 ca].toList :=
      ⟨Nat.lt_of_lt_of_le C2.out.1 gS.size, fun j z hj => (grown_cell (o := j) gS C2.out.1 (show w.heap.size ≠ U by omega)).trans (C2.out.2 j z hj)⟩
    have HC3 := Lib.hid C3
    have V3 := Lib.hid ((VW.out.below B3.out).grow B3.out.size)
    clear HD HD2 C2 C3 V2 B2 gS fcs
    go_upto_region 6 with fail
    clear hy d2 d3 f2 f3
    generalize ((W.setCell ⟨U, 2, none⟩ (.int .i64 x)).setCell ⟨U, 3, none⟩ (.int .i64 y)) = W3 at *
    go_wp2_with fail
    refine (alive_any _).mono ?_
    rintro e w4 ⟨rfl, b4⟩
    have B4 := Lib.hid (below_step B3.out b4)
    have C4 := Lib.hid (HC3.out.later b4)
    have D4 := Lib.hid (HD3.out.later b4)
    have V4 := Lib.hid (V3.out.later b4)
    clear b4 HC3 HD3 V3 B3
    have c0 := C4.out.2 0 _ rfl
    have c1 := C4.out.2 1 _ rfl
    have c2 := C4.out.2 2 _ rfl
    have c3 := C4.out.2 3 _ rfl
    have c4 := C4.out.2 4 _ rfl
    have c5 := C4.out.2 5 _ rfl
    have c6 := C4.out.2 6 _ rfl
    have c7 := C4.out.2 7 _ rfl
    have c8 := C4.out.2 8 _ rfl
    have c9 := C4.out.2 9 _ rfl
    have c10 := C4.out.2 10 _ rfl
    have c11 := C4.out.2 11 _ rfl
    have hw4 : w.heap.size < w4.heap.size := C4.out.1
    go_wp2_with fail
    refine (HR.out ra mo _ V4.out).mono ?_
    rintro e w5 ⟨rfl, b5⟩
    have B5 := Lib.hid (below_step B4.out b5)
    have D5 := Lib.hid (D4.out.later b5)
    have V5 := Lib.hid (V4.out.later b5)
    clear b5 C4 D4 V4 B4 c0 c1 c2 c3 c4 c5 c6 c7 c8 c9 c10 c11
    have c0 := D5.out.2 0 _ rfl
    have c1 := D5.out.2 1 _ rfl
    have c2 := D5.out.2 2 _ rfl
    have c3 := D5.out.2 3 _ rfl
    have c4 := D5.out.2 4 _ rfl
    have c5 := D5.out.2 5 _ rfl
    have c6 := D5.out.2 6 _ rfl
    have c7 := D5.out.2 7 _ rfl
    have c8 := D5.out.2 8 _ rfl
    have c9 := D5.out.2 9 _ rfl
    have c10 := D5.out.2 10 _ rfl
    have c11 := D5.out.2 11 _ rfl
    have hw5 : U < w5.heap.size := D5.out.1
    go_wp2_with fail
    refine (HK.out x y _ V5.out).mono ?_
    rintro e w6 ⟨rfl, b6⟩
    have B6 := Lib.hid (below_step B5.out b6)
    clear b6 D5 V5 B5 c0 c1 c2 c3 c4 c5 c6 c7 c8 c9 c10 c11
    go_wp2_with fail
    go_ret
    exact ⟨by first | rfl | (simp; done), B6.out⟩
end Go.Proofs.Ytolmdhhbhohndaa
