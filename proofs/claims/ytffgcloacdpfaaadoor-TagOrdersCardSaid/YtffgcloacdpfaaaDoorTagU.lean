/- Two numbers unpacked. -/
import Derived.Test.YtffgcloacdpfaaaDoorTagA
import Derived.WalkSmall
namespace Go.Proofs.YtffgcloacdpfaaaDoor
open Go.RowKit
set_option linter.unusedVariables false
theorem and20 (E : Int) (h0 : 0 ≤ E) (h1 : E < 18446744073709551616) : bits BinOp.and IntKind.u64 E 1048575 = E % 1048576 := by
  have h := bits_and_u64_nat E.toNat 1048575 (by omega) (by omega)
  rw [show (1048575 : Nat) = 2 ^ 20 - 1 from rfl, Nat.and_two_pow_sub_one_eq_mod, Int.toNat_of_nonneg h0] at h
  have h2 : ((E.toNat % 2 ^ 20 : Nat) : Int) = E % 1048576 := by omega
  exact h.trans h2
theorem and6 (E : Int) (h0 : 0 ≤ E) (h1 : E < 18446744073709551616) : bits BinOp.and IntKind.u64 E 63 = E % 64 := by
  have h := bits_and_u64_nat E.toNat 63 (by omega) (by omega)
  rw [show (63 : Nat) = 2 ^ 6 - 1 from rfl, Nat.and_two_pow_sub_one_eq_mod, Int.toNat_of_nonneg h0] at h
  have h2 : ((E.toNat % 2 ^ 6 : Nat) : Int) = E % 64 := by omega
  exact h.trans h2
/-- the tag of two numbers -/
def unA (U : Int) : Int := U / 1048576
def unB (U : Int) : Int := U % 1048576
def unC (V : Int) : Int := V / 67108864
def unD (V : Int) : Int := V / 1048576 % 64
def unE (V : Int) : Int := V % 1048576
def UnpackIs (U V : Int) (w : World) (e : Ending) (w' : World) : Prop :=
  (if rightB (unA U) (unB U) (unC V) (unD V) (unE V) then e = .returned (.tuple #[.agg #[.int .i64 (unA U), .int .i64 (unB U), .int .i64 (unC V), .int .i64 (unD V), .int .i64 (unE V)], .bool true])
    else e = .returned (.tuple #[.agg #[.int .i64 0, .int .i64 0, .int .i64 0, .int .i64 0, .int .i64 0], .bool false])) ∧ Below w.heap.size w w'
theorem set_same {w : World} {a : Addr} {u v : Value} (h : w.cell? a = some u) : (w.setCell a v).cell? a = some v := World.cell?_setCell_same _ _ _ h
theorem set_other {w : World} {B i j : Nat} {x v : Value} (hne : i ≠ j) (h : w.cell? ⟨B, j, none⟩ = some x) : (w.setCell ⟨B, i, none⟩ v).cell? ⟨B, j, none⟩ = some x := by
  exact (World.cell?_setCell_other _ _ _ _ (fun e => hne (by cases e; rfl))).trans h
theorem stored5 {w : World} {B : Nat} {x0 x1 x2 x3 x4 : Value} (v0 v1 v2 v3 v4 : Value) (r0 : w.cell? ⟨B, 0, none⟩ = some x0) (r1 : w.cell? ⟨B, 1, none⟩ = some x1) (r2 : w.cell? ⟨B, 2, none⟩ = some x2) (r3 : w.cell? ⟨B, 3, none⟩ = some x3) (r4 : w.cell? ⟨B, 4, none⟩ = some x4) :
    (((((w.setCell ⟨B, 0, none⟩ v0).setCell ⟨B, 1, none⟩ v1).setCell ⟨B, 2, none⟩ v2).setCell ⟨B, 3, none⟩ v3).setCell ⟨B, 4, none⟩ v4).cell? ⟨B, 0, none⟩ = some v0 ∧ (((((w.setCell ⟨B, 0, none⟩ v0).setCell ⟨B, 1, none⟩ v1).setCell ⟨B, 2, none⟩ v2).setCell ⟨B, 3, none⟩ v3).setCell ⟨B, 4, none⟩ v4).cell? ⟨B, 1, none⟩ = some v1 ∧ (((((w.setCell ⟨B, 0, none⟩ v0).setCell ⟨B, 1, none⟩ v1).setCell ⟨B, 2, none⟩ v2).setCell ⟨B, 3, none⟩ v3).setCell ⟨B, 4, none⟩ v4).cell? ⟨B, 2, none⟩ = some v2 ∧ (((((w.setCell ⟨B, 0, none⟩ v0).setCell ⟨B, 1, none⟩ v1).setCell ⟨B, 2, none⟩ v2).setCell ⟨B, 3, none⟩ v3).setCell ⟨B, 4, none⟩ v4).cell? ⟨B, 3, none⟩ = some v3 ∧ (((((w.setCell ⟨B, 0, none⟩ v0).setCell ⟨B, 1, none⟩ v1).setCell ⟨B, 2, none⟩ v2).setCell ⟨B, 3, none⟩ v3).setCell ⟨B, 4, none⟩ v4).cell? ⟨B, 4, none⟩ = some v4 ∧ Below B w (((((w.setCell ⟨B, 0, none⟩ v0).setCell ⟨B, 1, none⟩ v1).setCell ⟨B, 2, none⟩ v2).setCell ⟨B, 3, none⟩ v3).setCell ⟨B, 4, none⟩ v4) := by
  have h00 := set_same (v := v0) r0
  have h01 := set_other (i := 0) (j := 1) (v := v0) (by decide) r1
  have h02 := set_other (i := 0) (j := 2) (v := v0) (by decide) r2
  have h03 := set_other (i := 0) (j := 3) (v := v0) (by decide) r3
  have h04 := set_other (i := 0) (j := 4) (v := v0) (by decide) r4
  have h10 := set_other (i := 1) (j := 0) (v := v1) (by decide) h00
  have h11 := set_same (v := v1) h01
  have h12 := set_other (i := 1) (j := 2) (v := v1) (by decide) h02
  have h13 := set_other (i := 1) (j := 3) (v := v1) (by decide) h03
  have h14 := set_other (i := 1) (j := 4) (v := v1) (by decide) h04
  have h20 := set_other (i := 2) (j := 0) (v := v2) (by decide) h10
  have h21 := set_other (i := 2) (j := 1) (v := v2) (by decide) h11
  have h22 := set_same (v := v2) h12
  have h23 := set_other (i := 2) (j := 3) (v := v2) (by decide) h13
  have h24 := set_other (i := 2) (j := 4) (v := v2) (by decide) h14
  have h30 := set_other (i := 3) (j := 0) (v := v3) (by decide) h20
  have h31 := set_other (i := 3) (j := 1) (v := v3) (by decide) h21
  have h32 := set_other (i := 3) (j := 2) (v := v3) (by decide) h22
  have h33 := set_same (v := v3) h23
  have h34 := set_other (i := 3) (j := 4) (v := v3) (by decide) h24
  have h40 := set_other (i := 4) (j := 0) (v := v4) (by decide) h30
  have h41 := set_other (i := 4) (j := 1) (v := v4) (by decide) h31
  have h42 := set_other (i := 4) (j := 2) (v := v4) (by decide) h32
  have h43 := set_other (i := 4) (j := 3) (v := v4) (by decide) h33
  have h44 := set_same (v := v4) h34
  exact ⟨h40, h41, h42, h43, h44, below_set (below_set (below_set (below_set (below_set (Below.refl _ _) (Nat.le_refl _)) (Nat.le_refl _)) (Nat.le_refl _)) (Nat.le_refl _)) (Nat.le_refl _)⟩
theorem alive_any (w : World) : Calls Tryd.prog 11 #[] w fun e w' => e = .returned (.bool true) ∧ Below w.heap.size w w' := by
  have HT := Lib.hid (text_alive w)
  go_enter Tryd.func11, Tryd.ntmps11
  go_wp2_with fail
  refine HT.out.mono ?_
  rintro e w1 ⟨rfl, b1⟩
  have HB := Lib.hid b1
  clear b1
  go_wp2_with fail
  go_ret
  exact ⟨rfl, HB.out⟩
set_option maxHeartbeats 2000000 in
theorem unpack_any (U V : Int) (h1 : 0 ≤ U) (h2 : U < 18446744073709551616) (h3 : 0 ≤ V) (h4 : V < 18446744073709551616) (w : World) :
    Calls Tryd.prog 12 #[.agg #[.int .u64 U, .int .u64 V]] w (UnpackIs U V w) := by
  have AL := (Below.refl w.heap.size w).alloc (Nat.le_refl _) (.cells #[.int .u64 U, .int .u64 V] 25)
  have W1b := (Below.refl (w.alloc (.cells #[.int .u64 U, .int .u64 V] 25)).heap.size (w.alloc (.cells #[.int .u64 U, .int .u64 V] 25))).alloc (Nat.le_refl _) (.cells #[.int .i64 0, .int .i64 0, .int .i64 0, .int .i64 0, .int .i64 0] 23)
  have p01 := cells_two w (.int .u64 U) (.int .u64 V) 25
  have p0 := cell_step W1b p01.1
  have p1 := cell_step W1b p01.2
  have hz : (w.alloc (.cells #[.int .u64 U, .int .u64 V] 25)).heap.size = w.heap.size + 1 := by simp
  have z := cells_five (w.alloc (.cells #[.int .u64 U, .int .u64 V] 25)) (.int .i64 0) (.int .i64 0) (.int .i64 0) (.int .i64 0) (.int .i64 0) 23
  have zf := World.frozen?_alloc_new (w.alloc (.cells #[.int .u64 U, .int .u64 V] 25)) #[.int .i64 0, .int .i64 0, .int .i64 0, .int .i64 0, .int .i64 0] 23
  rw [hz] at z zf
  have B2 := below_step AL W1b
  have hz2 : ((w.alloc (.cells #[.int .u64 U, .int .u64 V] 25)).alloc (.cells #[.int .i64 0, .int .i64 0, .int .i64 0, .int .i64 0, .int .i64 0] 23)).heap.size = w.heap.size + 2 := by simp
  clear p01
  have m1 := and20 U h1 h2
  have m2 := and20 V h3 h4
  have m3 := and6 (V / 1048576) (by omega) (by omega)
  have b1 : 0 ≤ U % 1048576 ∧ U % 1048576 < 1048576 := by omega
  have b2 : 0 ≤ V % 1048576 ∧ V % 1048576 < 1048576 := by omega
  have b3 : 0 ≤ V / 1048576 % 64 ∧ V / 1048576 % 64 < 64 := by omega
  have g1 : wrap64 (U % 1048576) = U % 1048576 := by unfold wrap64; omega
  have g2 : wrap64 (V % 1048576) = V % 1048576 := by unfold wrap64; omega
  have g3 : wrap64 (V / 1048576 % 64) = V / 1048576 % 64 := by unfold wrap64; omega
  go_enter Tryd.func12, Tryd.ntmps12
  go_wp2_with fail
  generalize ha : U / 1048576 = a at *
  generalize hb : U % 1048576 = b at *
  generalize hc : V / 67108864 = c at *
  generalize hd : V / 1048576 % 64 = d at *
  generalize he : V % 1048576 = e_ at *
  have HQ := Lib.hid (And.intro ha (And.intro hb (And.intro hc (And.intro hd he))))
  clear ha hb hc hd he m1 m2 m3 g1 g2 g3
  have z0 := z 0 (by omega)
  have z1 := z 1 (by omega)
  have z2 := z 2 (by omega)
  have z3 := z 3 (by omega)
  have z4 := z 4 (by omega)
  generalize ((w.alloc (.cells #[.int .u64 U, .int .u64 V] 25)).alloc (.cells #[.int .i64 0, .int .i64 0, .int .i64 0, .int .i64 0, .int .i64 0] 23)) = W2 at *
  have al := (Below.refl W2.heap.size W2).alloc (Nat.le_refl _) (.cells #[.int .i64 a, .int .i64 b, .int .i64 c, .int .i64 d, .int .i64 e_] 23)
  have t := cells_five W2 (.int .i64 a) (.int .i64 b) (.int .i64 c) (.int .i64 d) (.int .i64 e_) 23
  have B3 := below_step B2 al
  generalize W2.alloc (.cells #[.int .i64 a, .int .i64 b, .int .i64 c, .int .i64 d, .int .i64 e_] 23) = W3 at *
  refine (right_any a b c d e_ W3).mono ?_
  rintro e w4 ⟨rfl, b4⟩
  have B4 := below_step B3 b4
  have x4 := below_step al b4
  have f0 := frozen_step x4 z0 (zf 0)
  have f1 := frozen_step x4 z1 (zf 1)
  have f2 := frozen_step x4 z2 (zf 2)
  have f3 := frozen_step x4 z3 (zf 3)
  have f4 := frozen_step x4 z4 (zf 4)
  have z0 := cell_step x4 z0
  have z1 := cell_step x4 z1
  have z2 := cell_step x4 z2
  have z3 := cell_step x4 z3
  have z4 := cell_step x4 z4
  have t0 := cell_step b4 (t 0 (by omega))
  have t1 := cell_step b4 (t 1 (by omega))
  have t2 := cell_step b4 (t 2 (by omega))
  have t3 := cell_step b4 (t 3 (by omega))
  have t4 := cell_step b4 (t 4 (by omega))
  rw [hz2] at t0 t1 t2 t3 t4
  clear t z zf al x4 b4
  cases hr : rightB a b c d e_
  · have ST := Lib.hid (stored5 (.int .i64 0) (.int .i64 0) (.int .i64 0) (.int .i64 0) (.int .i64 0) z0 z1 z2 z3 z4)
    go_wp2_with fail
    obtain ⟨s0, s1, s2, s3, s4, sb⟩ := ST.out
    (try simp only [Exit.inBlock, Exit.then])
    refine bodyPost_ret (v := .tuple #[.agg #[.int .i64 0, .int .i64 0, .int .i64 0, .int .i64 0, .int .i64 0], .bool false]) (by simp [results, Tryd.results12, s0, s1, s2, s3, s4, go_sem]) rfl ?_
    unfold UnpackIs unA unB unC unD unE
    rw [HQ.out.1, HQ.out.2.1, HQ.out.2.2.1, HQ.out.2.2.2.1, HQ.out.2.2.2.2, hr]
    exact ⟨rfl, B4.trans (sb.mono (by omega))⟩
  · have ST := Lib.hid (stored5 (.int .i64 a) (.int .i64 b) (.int .i64 c) (.int .i64 d) (.int .i64 e_) z0 z1 z2 z3 z4)
    go_wp2_with fail
    obtain ⟨s0, s1, s2, s3, s4, sb⟩ := ST.out
    (try simp only [Exit.inBlock, Exit.then])
    refine bodyPost_ret (v := .tuple #[.agg #[.int .i64 a, .int .i64 b, .int .i64 c, .int .i64 d, .int .i64 e_], .bool true]) (by simp [results, Tryd.results12, s0, s1, s2, s3, s4, go_sem]) rfl ?_
    unfold UnpackIs unA unB unC unD unE
    rw [HQ.out.1, HQ.out.2.1, HQ.out.2.2.1, HQ.out.2.2.2.1, HQ.out.2.2.2.2, hr]
    exact ⟨rfl, B4.trans (sb.mono (by omega))⟩
end Go.Proofs.YtffgcloacdpfaaaDoor
