/- Layer 12: alive, few, start. -/
import Derived.Test.YtgkiloidjeahbaaSmpH
namespace Go.Proofs.Ytgkiloidjeahbaa
open Go.RowKit
set_option linter.unusedVariables false
theorem few_no (n size steps : Int) (v : Value) (zs : List Int) (w : World) (hv : IntsW .u64 w.heap.size w v zs) (h : ¬ (n ≤ 60 ∧ steps ≤ 60 ∧ (zs.length : Int) ≤ 4000)) :
    Calls Try.prog 6 #[.agg #[.int .i64 n, .int .i64 size, .int .i64 steps, v]] w fun e w' => e = .returned (.bool false) ∧ Below w.heap.size w w' := by
  obtain ⟨a, c, rfl⟩ := hv.value
  have AL := Lib.hid ((Below.refl w.heap.size w).alloc (Nat.le_refl _) (.cells #[.int .i64 n, .int .i64 size, .int .i64 steps, .slice a zs.length c] 24))
  clear hv
  by_cases h1 : n ≤ 60
  · have g1 : decide (n ≤ 60) = true := by simpa using h1
    by_cases h2 : steps ≤ 60
    · have g2 : decide (steps ≤ 60) = true := by simpa using h2
      have h3 : ¬ ((zs.length : Int) ≤ 4000) := fun h3 => h ⟨h1, h2, h3⟩
      have g3 : decide ((zs.length : Int) ≤ 4000) = false := by simpa using h3
      have g4 : 4000 < zs.length := by omega
      clear h h3
      go_enter Try.func6, Try.ntmps6
      go_wp2_with fail
      go_ret
      exact ⟨by first | rfl | (simp; done) | (simp; omega), AL.out⟩
    · have g2 : decide (steps ≤ 60) = false := by simpa using h2
      clear h
      go_enter Try.func6, Try.ntmps6
      go_wp2_with fail
      go_ret
      exact ⟨by first | rfl | (simp; done), AL.out⟩
  · have g1 : decide (n ≤ 60) = false := by simpa using h1
    clear h
    go_enter Try.func6, Try.ntmps6
    go_wp2_with fail
    go_ret
    exact ⟨by first | rfl | (simp; done), AL.out⟩
theorem few_yes (n size steps : Int) (v : Value) (zs : List Int) (w : World) (hv : IntsW .u64 w.heap.size w v zs) (h1 : n ≤ 60) (h2 : steps ≤ 60) (h3 : zs.length ≤ 4000) :
    Calls Try.prog 6 #[.agg #[.int .i64 n, .int .i64 size, .int .i64 steps, v]] w fun e w' => e = .returned (.bool true) ∧ Below w.heap.size w w' := by
  obtain ⟨a, c, rfl⟩ := hv.value
  have AL := Lib.hid ((Below.refl w.heap.size w).alloc (Nat.le_refl _) (.cells #[.int .i64 n, .int .i64 size, .int .i64 steps, .slice a zs.length c] 24))
  have g1 : decide (n ≤ 60) = true := by simpa using h1
  have g2 : decide (steps ≤ 60) = true := by simpa using h2
  have g3 : decide ((zs.length : Int) ≤ 4000) = true := by simp; omega
  clear hv
  go_enter Try.func6, Try.ntmps6
  go_wp2_with fail
  go_ret
  exact ⟨by first | rfl | (simp; done) | (simp; omega), AL.out⟩
theorem okEx : OkS 4 2 2 [3, 2, 1].length := ⟨by decide, by decide, by decide, by decide, by decide⟩
theorem batchEx : batchL 4 2 2 (ordTo [3, 2, 1] 4 (cntN 4 2 2)) 1 = [2, 3] := by decide
set_option maxHeartbeats 1000000 in
theorem alive_any (w : World) : Calls Try.prog 7 #[] w fun e w' => e = .returned (.bool true) ∧ Below w.heap.size w w' := by
  have AL := (Below.refl w.heap.size w).alloc (Nat.le_refl _) (.cells #[.int .u64 3, .int .u64 2, .int .u64 1] 36)
  have HI := IntsAt.fresh (q := .u64) (w := w) (e := 36) (zs := [3, 2, 1]) (cs := #[.int .u64 3, .int .u64 2, .int .u64 1]) rfl
  have HN := Lib.hid (New_yes 4 2 2 _ [3, 2, 1] (by decide) (by decide) okEx _ (.inr HI))
  have HAL := Lib.hid AL
  clear HI AL
  go_enter Try.func7, Try.ntmps7
  go_wp2_with fail
  refine HN.out.mono ?_
  rintro e w1 ⟨b, rfl, hb, s1, b1⟩
  have B1 := Lib.hid (below_step HAL.out b1)
  have S1 := Lib.hid s1
  clear s1 b1 HN HAL
  go_wp2_with fail
  refine (steps_any b 4 2 2 _ _ S1.out).mono ?_
  rintro e w2 ⟨rfl, b2⟩
  have B2 := Lib.hid (below_step B1.out b2)
  have S2 := Lib.hid (S1.out.later b2)
  clear b2 S1 B1
  go_wp2_with fail
  have HB := Lib.hid (Batch_any b 4 2 2 _ (okEx.right [3, 2, 1]) 1 (by decide) _ S2.out)
  rw [batchEx] at HB
  refine HB.out.mono ?_
  rintro e w3 ⟨v3, rfl, o3, b3⟩
  have B3 := Lib.hid (below_step B2.out b3)
  obtain ⟨a3, c3, rfl⟩ := own_value o3
  have al := (Below.refl w3.heap.size w3).alloc (Nat.le_refl _) (.cells #[.int .i64 2, .int .i64 3] 3)
  have I3 := Lib.hid ((ints_own (zs := [2, 3]) o3).later al)
  have I4 := Lib.hid (IntsAt.fresh (q := .i64) (w := w3) (e := 3) (zs := [2, 3]) (cs := #[.int .i64 2, .int .i64 3]) rfl)
  have B4 := Lib.hid (below_step B3.out al)
  clear b3 o3 al HB S2 B2
  go_wp2_with fail
  refine (equal_same _ _ [2, 3] (by decide) _ _ _ I3.out I4.out).mono ?_
  rintro e w5 ⟨rfl, b5⟩
  have B5 := Lib.hid (below_step B4.out b5)
  clear b5
  go_wp2_with fail
  go_ret
  exact ⟨by first | rfl | (simp; done), B5.out⟩
def Started (n size steps : Int) (zs : List Int) (w : World) (e : Ending) (w' : World) : Prop :=
  ∃ (n' s' t' : Nat) (b : Nat) (v : Value), n = n' ∧ size = s' ∧ steps = t' ∧ OkS n' s' t' zs.length ∧ e = .returned (.tuple #[.pointer (some ⟨b, 0, none⟩), .agg #[.int .i64 n', .int .i64 s', .int .i64 t', v], .bool true]) ∧
    SampAt b w' n' s' t' (ordTo zs n' (cntN n' s' t')) ∧ ListsAt w.heap.size w' v (ordTo zs n' (cntN n' s' t')) ∧ w.heap.size ≤ b ∧ Below w.heap.size w w'
def NotStarted (w : World) (e : Ending) (w' : World) : Prop := e = .returned (.tuple #[.pointer none, .agg #[.int .i64 0, .int .i64 0, .int .i64 0, .slice none 0 0], .bool false]) ∧ Below w.heap.size w w'
set_option maxHeartbeats 1000000 in
theorem start_no (n size steps : Int) (hn : n ≤ 60) (hs : steps ≤ 60) (v : Value) (zs : List Int) (w : World) (hv : IntsW .u64 w.heap.size w v zs) (hc : codeS n size steps zs.length ≠ 0) :
    Calls Try.prog 14 #[.agg #[.int .i64 n, .int .i64 size, .int .i64 steps, v]] w (NotStarted w) := by
  have HN := Lib.hid (fun W h => New_no n size steps (by omega) (by omega) v zs W h hc)
  have HR := Lib.hid (fun W h => RefNew_no n size steps (by omega) (by omega) v zs W h hc)
  have al := (Below.refl w.heap.size w).alloc (Nat.le_refl _) (.cells #[.int .i64 n, .int .i64 size, .int .i64 steps, v] 24)
  have R0 := Four.new w (.int .i64 n) (.int .i64 size) (.int .i64 steps) v 24
  have al2 := (Below.refl (w.alloc (.cells #[.int .i64 n, .int .i64 size, .int .i64 steps, v] 24)).heap.size (w.alloc (.cells #[.int .i64 n, .int .i64 size, .int .i64 steps, v] 24))).alloc (Nat.le_refl _) (.cells #[.int .i64 0, .int .i64 0, .int .i64 0, .slice none 0 0] 33)
  have F0 := Four.new (w.alloc (.cells #[.int .i64 n, .int .i64 size, .int .i64 steps, v] 24)) (.int .i64 0) (.int .i64 0) (.int .i64 0) (.slice none 0 0) 33
  rw [World.size_alloc] at F0
  have R1 := Lib.hid (R0.later al2)
  have F1 := Lib.hid F0
  have AL := Lib.hid (below_step al al2)
  have V1 := Lib.hid (hv.later (below_step al al2))
  have hsz : ((w.alloc (.cells #[.int .i64 n, .int .i64 size, .int .i64 steps, v] 24)).alloc (.cells #[.int .i64 0, .int .i64 0, .int .i64 0, .slice none 0 0] 33)).heap.size = w.heap.size + 2 := by simp
  obtain ⟨a, c, rfl⟩ := hv.value
  clear hv R0 F0 al al2
  go_enter Try.func14, Try.ntmps14
  go_upto_region 1 with fail
  generalize ((w.alloc (.cells #[.int .i64 n, .int .i64 size, .int .i64 steps, .slice a zs.length c] 24)).alloc (.cells #[.int .i64 0, .int .i64 0, .int .i64 0, .slice none 0 0] 33)) = W2 at *
  generalize hNN : w.heap.size = N at *
  obtain ⟨r0, r1, r2, r3, -, -, -, -⟩ := R1.out
  go_wp2_with fail
  refine (HN.out _ V1.out).mono ?_
  rintro e w3 ⟨rfl, b3⟩
  have r0 := cell_step b3 r0
  have r1 := cell_step b3 r1
  have r2 := cell_step b3 r2
  have r3 := cell_step b3 r3
  have F3 := Lib.hid (F1.out.later b3)
  have V3 := Lib.hid (V1.out.later b3)
  have B3 := Lib.hid (AL.out.trans (b3.mono (by omega)))
  clear b3 F1 V1 AL HN R1
  go_wp2_with fail
  refine (HR.out _ V3.out).mono ?_
  rintro e w4 ⟨rfl, b4⟩
  have F4 := Lib.hid (F3.out.later b4)
  have B4 := Lib.hid (B3.out.trans (b4.mono (by have := B3.out.size; omega)))
  have al4 := (Below.refl w4.heap.size w4).alloc (Nat.le_refl _) (.cells #[.int .i64 0, .int .i64 0, .int .i64 0, .slice none 0 0] 33)
  have F5 := Lib.hid (F4.out.later al4)
  have B5 := Lib.hid (B4.out.trans (al4.mono (by have := B4.out.size; omega)))
  have G5 := Lib.hid (Four.new w4 (.int .i64 0) (.int .i64 0) (.int .i64 0) (.slice none 0 0) 33)
  have g0 : (codeS n size steps zs.length == 0) = false := by simpa using hc
  clear b4 al4 F3 F4 B3 B4 V3 HR r0 r1 r2 r3 hc
  generalize codeS n size steps zs.length = cd at *
  go_upto_region 3 with fail
  generalize (w4.alloc (.cells #[.int .i64 0, .int .i64 0, .int .i64 0, .slice none 0 0] 33)) = W5 at *
  generalize w4.heap.size = U at *
  obtain ⟨c0, c1, c2, c3, f0, f1, f2, f3⟩ := F5.out
  obtain ⟨m0, m1, m2, m3, -, -, -, -⟩ := G5.out
  have P := Lib.hid (F5.out.put (.int .i64 0) (.int .i64 0) (.int .i64 0) (.slice none 0 0))
  have BP := Lib.hid (B5.out.grown (put4_grown W5 (N + 1) (.int .i64 0) (.int .i64 0) (.int .i64 0) (.slice none 0 0)) (by have := B5.out.size; omega) (fun q e => by cases e; omega))
  unfold put4 at P BP
  go_region
  go_wp2_with fail
  (try simp only [Exit.inBlock, Exit.then])
  have D0 := P.out.c0
  have D1 := P.out.c1
  have D2 := P.out.c2
  have D3 := P.out.c3
  refine bodyPost_ret (v := .tuple #[.pointer none, .agg #[.int .i64 0, .int .i64 0, .int .i64 0, .slice none 0 0], .bool false]) (by simp [results, Try.results14, D0, D1, D2, D3, go_sem]) rfl ?_
  unfold NotStarted
  rw [hNN]
  exact ⟨rfl, by first | exact BP.out | exact BP.out.drew⟩
set_option maxHeartbeats 1000000 in
theorem start_yes (n size steps : Int) (hn : n ≤ 60) (hs : steps ≤ 60) (v : Value) (zs : List Int) (w : World) (hv : IntsW .u64 w.heap.size w v zs) (hz : ∀ z ∈ zs, 0 ≤ z ∧ z < 18446744073709551616) (hm : zs.length ≤ 4000) (hc : codeS n size steps zs.length = 0) :
    Calls Try.prog 14 #[.agg #[.int .i64 n, .int .i64 size, .int .i64 steps, v]] w (Started n size steps zs w) := by
  obtain ⟨n, size, steps, rfl, rfl, rfl, hok⟩ := code_ok hc
  unfold Started
  have HOK := Lib.hid hok
  have HN := Lib.hid (fun W h => New_yes n size steps v zs hz (by omega) HOK.out W h)
  have HR := Lib.hid (fun W h => RefNew_yes n size steps v zs hz (by omega) HOK.out W h)
  have al := (Below.refl w.heap.size w).alloc (Nat.le_refl _) (.cells #[.int .i64 n, .int .i64 size, .int .i64 steps, v] 24)
  have R0 := Four.new w (.int .i64 n) (.int .i64 size) (.int .i64 steps) v 24
  have al2 := (Below.refl (w.alloc (.cells #[.int .i64 n, .int .i64 size, .int .i64 steps, v] 24)).heap.size (w.alloc (.cells #[.int .i64 n, .int .i64 size, .int .i64 steps, v] 24))).alloc (Nat.le_refl _) (.cells #[.int .i64 0, .int .i64 0, .int .i64 0, .slice none 0 0] 33)
  have F0 := Four.new (w.alloc (.cells #[.int .i64 n, .int .i64 size, .int .i64 steps, v] 24)) (.int .i64 0) (.int .i64 0) (.int .i64 0) (.slice none 0 0) 33
  rw [World.size_alloc] at F0
  clear hc hok
  generalize hO : ordTo zs n (cntN n size steps) = ords at *
  have HO := Lib.hid hO
  clear hO
  have R1 := Lib.hid (R0.later al2)
  have F1 := Lib.hid F0
  have AL := Lib.hid (below_step al al2)
  have V1 := Lib.hid (hv.later (below_step al al2))
  have hsz : ((w.alloc (.cells #[.int .i64 n, .int .i64 size, .int .i64 steps, v] 24)).alloc (.cells #[.int .i64 0, .int .i64 0, .int .i64 0, .slice none 0 0] 33)).heap.size = w.heap.size + 2 := by simp
  obtain ⟨a, c, rfl⟩ := hv.value
  clear hv R0 F0 al al2
  go_enter Try.func14, Try.ntmps14
  go_upto_region 1 with fail
  generalize ((w.alloc (.cells #[.int .i64 n, .int .i64 size, .int .i64 steps, .slice a zs.length c] 24)).alloc (.cells #[.int .i64 0, .int .i64 0, .int .i64 0, .slice none 0 0] 33)) = W2 at *
  generalize hNN : w.heap.size = N at *
  obtain ⟨r0, r1, r2, r3, -, -, -, -⟩ := R1.out
  go_wp2_with fail
  refine (HN.out _ V1.out).mono ?_
  rintro e w3 ⟨b, rfl, hb, s3, b3⟩
  have S3 := Lib.hid s3
  have r0 := cell_step b3 r0
  have r1 := cell_step b3 r1
  have r2 := cell_step b3 r2
  have r3 := cell_step b3 r3
  have F3 := Lib.hid (F1.out.later b3)
  have V3 := Lib.hid (V1.out.later b3)
  have B3 := Lib.hid (AL.out.trans (b3.mono (by omega)))
  have hs3 : N + 2 ≤ w3.heap.size := by have := b3.size; omega
  clear b3 F1 V1 AL HN R1
  go_wp2_with fail
  refine (HR.out _ V3.out).mono ?_
  rintro e w4 ⟨v4, rfl, l4, b4⟩
  obtain ⟨a4, k4, c4, rfl⟩ : ∃ a k c, v4 = .slice a k c := by obtain ⟨us, h1, h2, h3⟩ := l4; obtain ⟨a, c, e⟩ := own_value h2; exact ⟨a, _, c, e⟩
  have S4 := Lib.hid (S3.out.later b4)
  have L4 := Lib.hid l4
  have F4 := Lib.hid (F3.out.later b4)
  have B4 := Lib.hid (B3.out.trans (b4.mono (by have := B3.out.size; omega)))
  have al4 := (Below.refl w4.heap.size w4).alloc (Nat.le_refl _) (.cells #[.int .i64 n, .int .i64 size, .int .i64 steps, .slice a4 k4 c4] 33)
  have F5 := Lib.hid (F4.out.later al4)
  have B5 := Lib.hid (B4.out.trans (al4.mono (by have := B4.out.size; omega)))
  have G5 := Lib.hid (Four.new w4 (.int .i64 n) (.int .i64 size) (.int .i64 steps) (.slice a4 k4 c4) 33)
  have S5 := Lib.hid (S4.out.later al4)
  have L5 := Lib.hid (L4.out.later al4)
  clear b4 al4 F3 F4 B3 B4 V3 HR r0 r1 r2 r3 S3 S4 L4
  go_upto_region 3 with fail
  generalize (w4.alloc (.cells #[.int .i64 n, .int .i64 size, .int .i64 steps, .slice a4 k4 c4] 33)) = W5 at *
  generalize w4.heap.size = U at *
  obtain ⟨c0, c1, c2, c3, f0, f1, f2, f3⟩ := F5.out
  obtain ⟨m0, m1, m2, m3, -, -, -, -⟩ := G5.out
  have P := Lib.hid (F5.out.put (.int .i64 n) (.int .i64 size) (.int .i64 steps) (.slice a4 k4 c4))
  have BP := Lib.hid (B5.out.grown (put4_grown W5 (N + 1) (.int .i64 n) (.int .i64 size) (.int .i64 steps) (.slice a4 k4 c4)) (by have := B5.out.size; omega) (fun q e => by cases e; omega))
  have gP := put4_grown W5 (N + 1) (.int .i64 n) (.int .i64 size) (.int .i64 steps) (.slice a4 k4 c4)
  have SP := Lib.hid (S5.out.kept gP (fun q e => by cases e; omega))
  have LP := Lib.hid (L5.out.kept gP (fun q e => by cases e; have := hs3; omega))
  have hsb := B5.out.size
  unfold put4 at P BP SP LP
  go_region
  go_wp2_with fail
  (try simp only [Exit.inBlock, Exit.then])
  have D0 := P.out.c0
  have D1 := P.out.c1
  have D2 := P.out.c2
  have D3 := P.out.c3
  refine bodyPost_ret (v := .tuple #[.pointer (some ⟨b, 0, none⟩), .agg #[.int .i64 n, .int .i64 size, .int .i64 steps, .slice a4 k4 c4], .bool true]) (by simp [results, Try.results14, D0, D1, D2, D3, go_sem]) rfl ?_
  exact ⟨n, size, steps, b, _, rfl, rfl, rfl, HOK.out, rfl, by rw [HO.out]; exact SP.out.later (Below.refl _ _).drew, by rw [HO.out, hNN]; exact (LP.out.later (Below.refl _ _).drew).mono (show N ≤ w3.heap.size by omega), by omega, by rw [hNN]; first | exact BP.out | exact BP.out.drew⟩
end Go.Proofs.Ytgkiloidjeahbaa
