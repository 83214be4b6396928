/- Layer 16: the reference's Of. -/
import Derived.Test.YtplobfiopbncpaaDoorMrkD
namespace Go.Proofs.YtplobfiopbncpaaDoor
open Go.RowKit
set_option linter.unusedVariables false
set_option maxHeartbeats 2000000 in
theorem refOf_any (v : Value) (xs : List Int) (hl : xs.length ≤ 1048576) (w : World) (hv : IntsW .i64 w.heap.size w v xs) :
    Calls Tryd.prog 12 #[v] w fun e w' => e = .returned (.agg #[.int .i64 (accR xs xs.length), .int .i64 (accI xs xs.length)]) ∧ Below w.heap.size w w' := by
  obtain ⟨a, c, rfl⟩ := hv.value
  have HV := Lib.hid hv
  have T0 := Two.new w 28 (.int .i64 0) (.int .i64 0)
  have T1 := Two.new (w.alloc (.cells #[.int .i64 0, .int .i64 0] 28)) 28 (.int .i64 0) (.int .i64 0)
  rw [World.size_alloc] at T1
  have bA := (Below.refl w.heap.size w).alloc (Nat.le_refl _) (.cells #[.int .i64 0, .int .i64 0] 28)
  have bA2 := (Below.refl (w.alloc (.cells #[.int .i64 0, .int .i64 0] 28)).heap.size (w.alloc (.cells #[.int .i64 0, .int .i64 0] 28))).alloc (Nat.le_refl _) (.cells #[.int .i64 0, .int .i64 0] 28)
  have X0 := Lib.hid (And.intro (show Two _ (w.heap.size + 1) 28 (.int .i64 (accR xs 0)) (.int .i64 (accI xs 0)) from T1) (And.intro (T0.later bA2) (below_step bA bA2)))
  clear T0 T1 bA bA2 hv
  go_enter Tryd.func12, Tryd.ntmps12
  go_upto_region 2 with fail
  generalize (w.alloc (.cells #[.int .i64 0, .int .i64 0] 28)).alloc (.cells #[.int .i64 0, .int .i64 0] 28) = W1 at *
  generalize hN : w.heap.size = N at *
  go_wp2_with fail
  go_loopw [4, 5] (fun iv _ wr => ∃ k : Nat, k ≤ xs.length ∧ iv = .int .i64 k ∧ Hid (Two wr (N + 1) 28 (.int .i64 (accR xs k)) (.int .i64 (accI xs k)) ∧ Two wr N 28 (.int .i64 0) (.int .i64 0) ∧ Below N w wr)) (fun iv _ _ => xs.length - (intOf iv).toNat)
  case atStart => exact ⟨0, Nat.zero_le _, rfl, X0⟩
  case round =>
    clear X0
    obtain ⟨k, hk, rfl, HX⟩ := hrel
    by_cases hlt : k < xs.length
    · obtain ⟨b, off, rfl, hb, hc⟩ := HV.out.at' k hlt
      have c1 := (HX.out.2.2.cell (p := ⟨b, off + k, none⟩) hb).trans hc
      obtain ⟨bk1, bk2⟩ := acc_le xs k
      have lo := lowI_le (xs[k]?.getD 0)
      obtain ⟨t1, t2⟩ := trn_low (lowI (xs[k]?.getD 0)) (by omega) k
      have HT := Lib.hid (fun W => refTurn_any (lowI (xs[k]?.getD 0)) 0 k (by omega) (by decide) W)
      have HL := Lib.hid (fun W => refLow_any (xs[k]?.getD 0) W)
      have eR : accR xs (k + 1) = accR xs k + trnR (lowI (xs[k]?.getD 0)) 0 k := rfl
      have eI : accI xs (k + 1) = accI xs k + trnI (lowI (xs[k]?.getD 0)) 0 k := rfl
      have i0 : (0 : Int) ≤ (k : Int) := by omega
      have i1 : (k : Int) < (xs.length : Int) := by omega
      have l1 : (k : Int) ≤ 1048576 := by omega
      clear hb hc
      generalize xs[k]?.getD 0 = x at *
      generalize lowI x = lx at *
      generalize hR' : accR xs (k + 1) = R' at *
      generalize hI' : accI xs (k + 1) = I' at *
      generalize accR xs k = R at *
      generalize accI xs k = I at *
      generalize trnR lx 0 k = p at *
      generalize trnI lx 0 k = q at *
      have eR2 : R + p = R' := eR.symm
      have eI2 : I + q = I' := eI.symm
      have w1 : -9223372036854775808 ≤ R' ∧ R' ≤ 9223372036854775807 := by omega
      have w2 : -9223372036854775808 ≤ I' ∧ I' ≤ 9223372036854775807 := by omega
      have v1 : IntKind.i64.wrap (R + p) = R' := by rw [eR2]; exact IntWalk.i64_in _ w1
      have v2 : IntKind.i64.wrap (I + q) = I' := by rw [eI2]; exact IntWalk.i64_in _ w2
      clear eR eI lo bk1 bk2 t1 t2
      go_wp2_with fail
      refine (HL.out wr).mono ?_
      rintro e w3 ⟨rfl, b3⟩
      have S3 := Lib.hid (HX.out.1.later b3)
      have T3 := Lib.hid (HX.out.2.1.later b3)
      have B3 := Lib.hid (HX.out.2.2.trans (b3.mono (by have := HX.out.2.2.size; omega)))
      clear HX b3 HL c1
      go_wp2_with fail
      refine (HT.out w3).mono ?_
      rintro e w4 ⟨rfl, b4⟩
      have S4 := S3.out.later b4
      have T4 := T3.out.later b4
      have B4 := B3.out.trans (b4.mono (by have := B3.out.size; omega))
      clear S3 T3 B3 b4 HT
      have Q5 := Two.new w4 28 (.int .i64 p) (.int .i64 q)
      have bA := (Below.refl w4.heap.size w4).alloc (Nat.le_refl _) (.cells #[.int .i64 p, .int .i64 q] 28)
      have S5 := S4.later bA
      have T5 := T4.later bA
      have B5 := B4.trans (bA.mono (by have := B4.size; omega))
      clear S4 T4 B4 bA
      go_upto_region 6 with fail
      generalize w4.alloc (.cells #[.int .i64 p, .int .i64 q] 28) = W5 at *
      generalize w4.heap.size = M at *
      obtain ⟨q0, q1⟩ := Q5.cells
      obtain ⟨s0, s1⟩ := S5.cells
      have f0 := S5.frozen 0
      have f1 := S5.frozen 1
      have SS := S5.store (.int .i64 R') (.int .i64 I')
      have G := grown_trans (grown_set W5 (N + 1) 0 (.int .i64 R')) (grown_set _ (N + 1) 1 (.int .i64 I'))
      have S1 := T5.kept G (by omega)
      have BB := below_set (o := 1) (x := .int .i64 I') (below_set (o := 0) (x := .int .i64 R') B5 (by omega : N ≤ N + 1)) (by omega : N ≤ N + 1)
      have X5 := Lib.hid (And.intro SS (And.intro S1 BB))
      clear SS G S1 BB S5 T5 B5 Q5
      go_wp2_with fail
      generalize (W5.setCell ⟨N + 1, 0, none⟩ (.int .i64 R')).setCell ⟨N + 1, 1, none⟩ (.int .i64 I') = W6 at *
      go_wp2_with fail
      go_roundw
      case rel => exact ⟨k + 1, by omega, by go_num, by rw [hR', hI']; exact X5⟩
      case measure => simp [intOf]; omega
    · have hke : k = xs.length := by omega
      subst hke
      have i0 : ¬ (xs.length : Int) < (xs.length : Int) := by omega
      obtain ⟨c0, c1⟩ := HX.out.1.cells
      obtain ⟨d0, d1⟩ := HX.out.2.1.cells
      have k0 := HX.out.2.1.frozen 0
      have k1 := HX.out.2.1.frozen 1
      generalize hp : accR xs xs.length = p at *
      generalize hq : accI xs xs.length = q at *
      have SS := HX.out.2.1.store (.int .i64 p) (.int .i64 q)
      have BB := Lib.hid (below_set (o := 1) (x := .int .i64 q) (below_set (o := 0) (x := .int .i64 p) HX.out.2.2 (Nat.le_refl N)) (Nat.le_refl N))
      clear HX
      go_wp2_with fail
      generalize (wr.setCell ⟨N, 0, none⟩ (.int .i64 p)).setCell ⟨N, 1, none⟩ (.int .i64 q) = W5 at *
      obtain ⟨y0, y1⟩ := SS.cells
      refine bodyPost_ret (v := .agg #[.int .i64 p, .int .i64 q]) ?_ rfl ⟨by first | rfl | rw [hp, hq], BB.out⟩
      clear SS BB
      simp [results, Tryd.results12, y0, y1, go_sem]
end Go.Proofs.YtplobfiopbncpaaDoor
