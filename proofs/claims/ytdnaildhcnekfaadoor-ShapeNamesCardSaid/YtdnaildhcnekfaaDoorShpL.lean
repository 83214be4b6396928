/- Layer 8: a nil shape. -/
import Derived.Test.YtdnaildhcnekfaaDoorShpK
import Derived.BigQuiet
namespace Go.Proofs.YtdnaildhcnekfaaDoor
open Go.RowKit
set_option linter.unusedVariables false
theorem linksNil_any (w : World) : Calls Tryd.prog 13 #[.pointer none] w fun e w' => e = .returned (.int .i64 0) ∧ Below w.heap.size w w' := by
  go_enter Tryd.func13, Tryd.ntmps13
  go_wp2_with fail
  go_ret
  exact ⟨rfl, Below.refl _ _⟩
theorem countNil_any (w : World) : Calls Tryd.prog 14 #[.pointer none] w fun e w' => e = .returned (.int .i64 0) ∧ Below w.heap.size w w' := by
  go_enter Tryd.func14, Tryd.ntmps14
  go_wp2_with fail
  go_ret
  exact ⟨rfl, Below.refl _ _⟩
theorem sizesNil_any (w : World) : Calls Tryd.prog 12 #[.pointer none] w fun e w' => e = .returned (.slice none 0 0) ∧ Below w.heap.size w w' := by
  go_enter Tryd.func12, Tryd.ntmps12
  go_wp2_with fail
  go_ret
  exact ⟨rfl, Below.refl _ _⟩
theorem linkNil_any (k : Int) (w : World) : Calls Tryd.prog 30 #[.pointer none, .int .i64 k] w fun e w' => e = .returned (.bool false) ∧ Below w.heap.size w w' := by
  have HL := Lib.hid (linksNil_any w)
  by_cases h0 : 0 ≤ k
  · have g0 : decide (0 ≤ k) = true := by simpa using h0
    have g1 : decide (k < 0) = false := by simpa using h0
    have g2 : ¬ k < 0 := by omega
    go_enter Tryd.func30, Tryd.ntmps30
    go_wp2_with fail
    refine HL.out.mono ?_
    rintro e w1 ⟨rfl, b1⟩
    go_wp2_with fail
    go_ret
    exact ⟨by first | rfl | simp [g1] | (simp; omega), b1⟩
  · have g0 : decide (0 ≤ k) = false := by simpa using h0
    have g1 : ¬ 0 ≤ k := h0
    go_enter Tryd.func30, Tryd.ntmps30
    go_wp2_with fail
    go_ret
    exact ⟨by first | rfl | simp, Below.refl _ _⟩
theorem weightsNil_any (k : Int) (w : World) :
    Calls Tryd.prog 16 #[.pointer none, .int .i64 k] w fun e w' => e = .returned (.agg #[.int .i64 0, .int .i64 0]) ∧ Below w.heap.size w w' := by
  have bA := (Below.refl w.heap.size w).alloc (Nat.le_refl _) (.cells #[.int .i64 0, .int .i64 0] 35)
  have T := Two.new w 35 (.int .i64 0) (.int .i64 0)
  have hl := linkNil_any k (w.alloc (.cells #[.int .i64 0, .int .i64 0] 35))
  go_enter Tryd.func16, Tryd.ntmps16
  go_wp2_with fail
  refine hl.mono ?_
  rintro e w1 ⟨rfl, b1⟩
  have T1 := T.later b1
  have B1 := Lib.hid (bA.trans (b1.mono bA.size))
  obtain ⟨t0, t1⟩ := T1.cells
  have f0 := T1.frozen 0
  have f1 := T1.frozen 1
  clear hl b1 bA T
  go_wp2_with fail
  have SS := T1.store (.int .i64 0) (.int .i64 0)
  have BB := Lib.hid (below_set (o := 1) (x := .int .i64 0) (below_set (o := 0) (x := .int .i64 0) B1.out (Nat.le_refl _)) (Nat.le_refl _))
  generalize (w1.setCell ⟨w.heap.size, 0, none⟩ (.int .i64 0)).setCell ⟨w.heap.size, 1, none⟩ (.int .i64 0) = W at *
  obtain ⟨y0, y1⟩ := SS.cells
  refine bodyPost_ret (v := .agg #[.int .i64 0, .int .i64 0]) ?_ rfl ⟨rfl, BB.out⟩
  simp [results, Tryd.results16, y0, y1, go_sem]
theorem biasesNil_any (k : Int) (w : World) :
    Calls Tryd.prog 18 #[.pointer none, .int .i64 k] w fun e w' => e = .returned (.agg #[.int .i64 0, .int .i64 0]) ∧ Below w.heap.size w w' := by
  have bA := (Below.refl w.heap.size w).alloc (Nat.le_refl _) (.cells #[.int .i64 0, .int .i64 0] 35)
  have T := Two.new w 35 (.int .i64 0) (.int .i64 0)
  have hl := linkNil_any k (w.alloc (.cells #[.int .i64 0, .int .i64 0] 35))
  go_enter Tryd.func18, Tryd.ntmps18
  go_wp2_with fail
  refine hl.mono ?_
  rintro e w1 ⟨rfl, b1⟩
  have T1 := T.later b1
  have B1 := Lib.hid (bA.trans (b1.mono bA.size))
  obtain ⟨t0, t1⟩ := T1.cells
  have f0 := T1.frozen 0
  have f1 := T1.frozen 1
  clear hl b1 bA T
  go_wp2_with fail
  have SS := T1.store (.int .i64 0) (.int .i64 0)
  have BB := Lib.hid (below_set (o := 1) (x := .int .i64 0) (below_set (o := 0) (x := .int .i64 0) B1.out (Nat.le_refl _)) (Nat.le_refl _))
  generalize (w1.setCell ⟨w.heap.size, 0, none⟩ (.int .i64 0)).setCell ⟨w.heap.size, 1, none⟩ (.int .i64 0) = W at *
  obtain ⟨y0, y1⟩ := SS.cells
  refine bodyPost_ret (v := .agg #[.int .i64 0, .int .i64 0]) ?_ rfl ⟨rfl, BB.out⟩
  simp [results, Tryd.results18, y0, y1, go_sem]
theorem rangesNil_any (w : World) : Calls Tryd.prog 31 #[.pointer none] w fun e w' => e = .returned (.slice none 0 0) ∧ Below w.heap.size w w' := by
  have HL := Lib.hid (linksNil_any w)
  go_enter Tryd.func31, Tryd.ntmps31
  go_wp2_with fail
  refine HL.out.mono ?_
  rintro e w1 ⟨rfl, b1⟩
  go_wp2_with fail
  go_loopw [3, 4, 7] (fun v _ i wr => v = .slice none 0 0 ∧ i = .int .i64 0 ∧ wr = w1) (fun _ _ i _ => 0)
  case atStart => exact ⟨rfl, rfl, rfl⟩
  case round =>
    obtain ⟨rfl, rfl, rfl⟩ := hrel
    go_wp2_with fail
    go_ret
    exact ⟨rfl, b1⟩
theorem placeNil_any (i : Int) (w : World) :
    Calls Tryd.prog 23 #[.pointer none, .int .i64 i] w fun e w' => e = .returned (.tuple #[.int .i64 0, .int .i64 0, .int .i64 0, .bool false]) ∧ Below w.heap.size w w' := by
  have HL := Lib.hid (rangesNil_any w)
  go_enter Tryd.func23, Tryd.ntmps23
  go_wp2_with fail
  refine HL.out.mono ?_
  rintro e w1 ⟨rfl, b1⟩
  have HO := of_any i (.slice none 0 0) [] (by simp) w1 (SliceAt.of_owns (e := 35) (World.ownsRow_nil w1 w1.heap.size _ _))
  go_wp2_with fail
  refine HO.mono ?_
  rintro e w2 ⟨rfl, b2⟩
  have B2 := b1.trans (b2.mono b1.size)
  unfold findR
  go_wp2_with fail
  refine bodyPost_ret (v := .tuple #[.int .i64 0, .int .i64 0, .int .i64 0, .bool false]) ?_ rfl ⟨rfl, B2⟩
  simp [results, Tryd.results23, go_sem]
theorem nameNil_any (i : Int) (w : World) :
    Calls Tryd.prog 24 #[.pointer none, .int .i64 i] w fun e w' => e = .returned (.string ⟨#[]⟩) ∧ Below w.heap.size w w' := by
  have HL := Lib.hid (placeNil_any i w)
  go_enter Tryd.func24, Tryd.ntmps24
  go_wp2_with fail
  refine HL.out.mono ?_
  rintro e w1 ⟨rfl, b1⟩
  go_wp2_with fail
  go_ret
  exact ⟨rfl, b1⟩
theorem guessNil_any (L a b c : Int) (w : World) :
    Calls Tryd.prog 34 #[.pointer none, .int .i32 L, .agg #[.int .i64 a, .int .i64 b, .int .i64 c]] w fun e w' => e = .returned (.int .i64 (-1)) ∧ Below w.heap.size w w' := by
  have bA := (Below.refl w.heap.size w).alloc (Nat.le_refl _) (.cells #[.int .i64 a, .int .i64 b, .int .i64 c] 62)
  have cN := cell_new w #[.int .i64 a, .int .i64 b, .int .i64 c] 62
  have c0 := (cN 0).trans rfl
  have c1 := (cN 1).trans rfl
  have c2 := (cN 2).trans rfl
  clear cN
  go_enter Tryd.func34, Tryd.ntmps34
  go_wp2_with fail
  go_quiet (fail)
  have bD := below_drewN bA nq
  go_wp2_with fail
  refine (linkNil_any a _).mono ?_
  rintro e w1 ⟨rfl, b1⟩
  have B1 := Lib.hid (bD.trans (b1.mono bD.size))
  clear b1 bA c0 c1 c2
  go_wp2_with fail
  go_ret
  exact ⟨rfl, B1.out⟩
theorem indexNil_any (s : ByteArray) (hs : s.size ≤ 1000) (w : World) :
    Calls Tryd.prog 25 #[.pointer none, .string s] w fun e w' => e = .returned (.tuple #[.int .i64 0, .bool false]) ∧ Below w.heap.size w w' := by
  have HS := Lib.hid (splitS_any s hs w)
  obtain ⟨L, n0, n1, n2, hsp⟩ : ∃ L n0 n1 n2, L = (splitN s).1 ∧ n0 = (splitN s).2 0 ∧ n1 = (splitN s).2 1 ∧ n2 = (splitN s).2 2 := ⟨_, _, _, _, rfl, rfl, rfl, rfl⟩
  rw [← hsp.1, ← hsp.2.1, ← hsp.2.2.1, ← hsp.2.2.2] at HS
  clear hsp
  go_enter Tryd.func25, Tryd.ntmps25
  go_wp2_with fail
  refine HS.out.mono ?_
  rintro e w1 ⟨rfl, b1⟩
  have B1 := Lib.hid b1
  clear HS b1
  go_wp2_with fail
  refine (guessNil_any L n0 n1 n2 w1).mono ?_
  rintro e w2 ⟨rfl, b2⟩
  have B2 := Lib.hid (B1.out.trans (b2.mono B1.out.size))
  clear b2 B1
  by_cases he : s.toList = []
  · have g1 : s.toList.isEmpty = true := by rw [he]; rfl
    go_wp2_with fail
    refine bodyPost_ret (v := .tuple #[.int .i64 0, .bool false]) ?_ rfl ⟨rfl, B2.out⟩
    simp [results, Tryd.results25, go_sem]
  · have g1 : s.toList.isEmpty = false := by simpa using he
    have g2 : ¬ [] = s.toList := fun h => he h.symm
    go_wp2_with fail
    refine (nameNil_any (-1) w2).mono ?_
    rintro e w3 ⟨rfl, b3⟩
    have B3 := Lib.hid (B2.out.trans (b3.mono B2.out.size))
    clear b3 B2
    go_wp2_with fail
    refine bodyPost_ret (v := .tuple #[.int .i64 0, .bool false]) ?_ rfl ⟨rfl, B3.out⟩
    simp [results, Tryd.results25, go_sem]
end Go.Proofs.YtdnaildhcnekfaaDoor
