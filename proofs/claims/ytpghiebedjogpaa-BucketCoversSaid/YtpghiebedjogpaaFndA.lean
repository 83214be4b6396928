/- Layer 15: locate. -/
import Derived.Test.YtpghiebedjogpaaFndM
import Derived.StillTailTactics
import Derived.Deep.Cut
namespace Go.Proofs.Ytpghiebedjogpaa
open Go.RowKit
set_option linter.unusedVariables false
theorem nowhere_any (w : World) : Calls Try.prog 34 #[] w fun e w' => e = .returned (.agg #[.int .i64 (-1), .int .i64 (-1), .int .i64 (-1)]) ∧ Below w.heap.size w w' := by
  have AL := (Below.refl w.heap.size w).alloc (Nat.le_refl _) (.cells #[.int .i64 (-1), .int .i64 (-1), .int .i64 (-1)] 43)
  have c0 := cell_new w #[.int .i64 (-1), .int .i64 (-1), .int .i64 (-1)] 43 0
  have c1 := cell_new w #[.int .i64 (-1), .int .i64 (-1), .int .i64 (-1)] 43 1
  have c2 := cell_new w #[.int .i64 (-1), .int .i64 (-1), .int .i64 (-1)] 43 2
  go_enter Try.func34, Try.ntmps34
  go_wp2_with fail
  (try simp only [Exit.inBlock, Exit.then])
  refine bodyPost_ret (v := .agg #[.int .i64 (-1), .int .i64 (-1), .int .i64 (-1)]) (by simp [results, Try.results34, c0, c1, c2, go_sem]) rfl ⟨rfl, AL⟩
/-- three cells of a block are stored -/
structure Cell3 (R : Nat) (W : World) : Prop where
  c0 : ∃ v, W.cell? ⟨R, 0, none⟩ = some v
  c1 : ∃ v, W.cell? ⟨R, 1, none⟩ = some v
  c2 : ∃ v, W.cell? ⟨R, 2, none⟩ = some v
  f0 : W.frozen? ⟨R, 0, none⟩ = false
  f1 : W.frozen? ⟨R, 1, none⟩ = false
  f2 : W.frozen? ⟨R, 2, none⟩ = false
theorem Cell3.new (w : World) (x y z : Value) (e : TypeId) : Cell3 w.heap.size (w.alloc (.cells #[x, y, z] e)) :=
  ⟨⟨_, cell_new w _ e 0⟩, ⟨_, cell_new w _ e 1⟩, ⟨_, cell_new w _ e 2⟩, World.frozen?_alloc_new w _ e 0, World.frozen?_alloc_new w _ e 1, World.frozen?_alloc_new w _ e 2⟩
theorem Cell3.later {R : Nat} {W W' : World} (h : Cell3 R W) (b : Below W.heap.size W W') : Cell3 R W' := by
  obtain ⟨⟨x, c0⟩, ⟨y, c1⟩, ⟨z, c2⟩, f0, f1, f2⟩ := h
  exact ⟨⟨x, cell_step b c0⟩, ⟨y, cell_step b c1⟩, ⟨z, cell_step b c2⟩, frozen_step b c0 f0, frozen_step b c1 f1, frozen_step b c2 f2⟩
theorem stored3 {w : World} {B : Nat} (h : Cell3 B w) (v0 v1 v2 : Value) :
    (((w.setCell ⟨B, 0, none⟩ v0).setCell ⟨B, 1, none⟩ v1).setCell ⟨B, 2, none⟩ v2).cell? ⟨B, 0, none⟩ = some v0 ∧ (((w.setCell ⟨B, 0, none⟩ v0).setCell ⟨B, 1, none⟩ v1).setCell ⟨B, 2, none⟩ v2).cell? ⟨B, 1, none⟩ = some v1 ∧ (((w.setCell ⟨B, 0, none⟩ v0).setCell ⟨B, 1, none⟩ v1).setCell ⟨B, 2, none⟩ v2).cell? ⟨B, 2, none⟩ = some v2 ∧
    Below B w (((w.setCell ⟨B, 0, none⟩ v0).setCell ⟨B, 1, none⟩ v1).setCell ⟨B, 2, none⟩ v2) := by
  obtain ⟨⟨x, c0⟩, ⟨y, c1⟩, ⟨z, c2⟩, f0, f1, f2⟩ := h
  refine ⟨?_, ?_, ?_, below_set (below_set (below_set (Below.refl _ _) (Nat.le_refl _)) (Nat.le_refl _)) (Nat.le_refl _)⟩
  · rw [World.cell?_setCell_other _ _ _ _ (by simp), World.cell?_setCell_other _ _ _ _ (by simp)]; exact World.cell?_setCell_same _ _ _ c0
  · rw [World.cell?_setCell_other _ _ _ _ (by simp)]
    refine World.cell?_setCell_same _ _ _ (u := y) ?_
    rw [World.cell?_setCell_other _ _ _ _ (by simp)]; exact c1
  · refine World.cell?_setCell_same _ _ _ (u := z) ?_
    rw [World.cell?_setCell_other _ _ _ _ (by simp), World.cell?_setCell_other _ _ _ _ (by simp)]; exact c2
def Ok5 (i n b w c : Int) : Prop := 0 ≤ i ∧ i < n ∧ 1 ≤ b ∧ 1 ≤ w ∧ 1 ≤ c
set_option maxHeartbeats 1000000 in
theorem locate_no (i n b k c : Int) (h : ¬ Ok5 i n b k c) (w : World) :
    Calls Try.prog 33 #[.int .i64 i, .int .i64 n, .int .i64 b, .int .i64 k, .int .i64 c] w fun e w' => e = .returned (.agg #[.int .i64 (-1), .int .i64 (-1), .int .i64 (-1)]) ∧ Below w.heap.size w w' := by
  have AL := (Below.refl w.heap.size w).alloc (Nat.le_refl _) (.cells #[.int .i64 0, .int .i64 0, .int .i64 0] 43)
  have C3 := Lib.hid (Cell3.new w (.int .i64 0) (.int .i64 0) (.int .i64 0) 43)
  have h' : i < 0 ∨ ¬ i < 0 ∧ n ≤ i ∨ ¬ i < 0 ∧ ¬ n ≤ i ∧ b < 1 ∨ ¬ i < 0 ∧ ¬ n ≤ i ∧ ¬ b < 1 ∧ k < 1 ∨ ¬ i < 0 ∧ ¬ n ≤ i ∧ ¬ b < 1 ∧ ¬ k < 1 ∧ c < 1 := by unfold Ok5 at h; omega
  clear h
  rcases h' with h | h | h | h | h
  all_goals
    go_enter Try.func33, Try.ntmps33
    go_wp2_with fail
    refine (nowhere_any _).mono ?_
    rintro e w1 ⟨rfl, b1⟩
    have C31 := C3.out.later b1
    obtain ⟨⟨x, c0⟩, ⟨y, c1⟩, ⟨z, c2⟩, f0, f1, f2⟩ := C31
    have ST := Lib.hid (stored3 ⟨⟨x, c0⟩, ⟨y, c1⟩, ⟨z, c2⟩, f0, f1, f2⟩ (.int .i64 (-1)) (.int .i64 (-1)) (.int .i64 (-1)))
    have B1 := Lib.hid (below_step AL b1)
    clear b1
    go_wp2_with fail
    (try simp only [Exit.inBlock, Exit.then])
    have D0 := ST.out.1
    have D1 := ST.out.2.1
    have D2 := ST.out.2.2.1
    refine bodyPost_ret (v := .agg #[.int .i64 (-1), .int .i64 (-1), .int .i64 (-1)]) (by simp [results, Try.results33, D0, D1, D2, go_sem]) rfl ⟨rfl, ?_⟩
    exact B1.out.trans ST.out.2.2.2
set_option maxHeartbeats 2000000 in
theorem locate_ok (i n b k c : Int) (h : Ok5 i n b k c) (hn : n ≤ 1048576) (hb : b ≤ 9223372036854775807) (hk : k ≤ 1048576) (hc : c ≤ 9223372036854775807) (q : Nat) (hq : i / b = (q : Int)) (m : Nat) (sl : Int) (hm : ∃ hm : m < (segR ((q : Int) * b) (q * b + min b (n - q * b)) k).length, findR i (segR ((q : Int) * b) (q * b + min b (n - q * b)) k) 0 = (m : Int) ∧ ((segR ((q : Int) * b) (q * b + min b (n - q * b)) k)[m]).1 = sl ∧ 0 ≤ sl ∧ sl ≤ i) (w : World) :
    Calls Try.prog 33 #[.int .i64 i, .int .i64 n, .int .i64 b, .int .i64 k, .int .i64 c] w fun e w' => e = .returned (.agg #[.int .i64 (cntB n b - 1 - q), .int .i64 m, .int .i64 ((i - sl) / c)]) ∧ Below w.heap.size w w' := by
  have AL := (Below.refl w.heap.size w).alloc (Nat.le_refl _) (.cells #[.int .i64 0, .int .i64 0, .int .i64 0] 43)
  have C3 := Lib.hid (Cell3.new w (.int .i64 0) (.int .i64 0) (.int .i64 0) 43)
  obtain ⟨h0, h1, h2, h3, h4⟩ := h
  obtain ⟨q', hq', hcq, e1, e2, e3, e4⟩ := block_at n b i h0 h1 h2
  have : q = q' := by omega
  subst this
  have hlo : 0 ≤ (q : Int) * b := Int.mul_nonneg (by omega) (by omega)
  have hqn : (q : Int) ≤ i := by rw [← hq]; exact Int.ediv_le_self b h0
  have HSE := Lib.hid (fun W => segments_any ((q : Int) * b) (q * b + min b (n - q * b)) k hlo (by omega) (by omega) (by omega) hk W)
  have HLE := Lib.hid (segR_le ((q : Int) * b) (q * b + min b (n - q * b)) k hk)
  have HCN := Lib.hid (fun W => count_any n b (by omega) (by omega) (by omega) hb W)
  have hcr := cntB_range n b
  obtain ⟨hm, hf, hsl, hs0, hs1⟩ := hm
  generalize segR ((q : Int) * b) (q * b + min b (n - q * b)) k = rs at *
  have HF := Lib.hid hf
  have HSL := Lib.hid hsl
  clear e1 e4 hf hsl hq'
  generalize hlo' : (q : Int) * b = lo at *
  generalize cntB n b = cn at *
  have HLO := Lib.hid hlo'
  go_enter Try.func33, Try.ntmps33
  go_upto_region 5 with fail
  go_wp2_with fail
  refine (HSE.out _).mono ?_
  rintro e w1 ⟨v, rfl, o1, b1⟩
  have V1 := Lib.hid (RangesAt.new o1)
  obtain ⟨a, cp, rfl⟩ := own_value o1
  have B1 := Lib.hid (below_step AL b1)
  have C1 := Lib.hid (C3.out.later b1)
  clear o1 b1 HSE
  go_wp2_with fail
  refine (of_any i _ rs HLE.out _ V1.out).mono ?_
  rintro e w2 ⟨rfl, b2⟩
  rw [HF.out]
  have V2 := Lib.hid (V1.out.later b2)
  have B2 := Lib.hid (below_step B1.out b2)
  have C2 := Lib.hid (C1.out.later b2)
  clear b2
  rcases V2.out.form with ⟨_, e0⟩ | ⟨bb, off, cap, e0, hcap, hbb, hcs⟩
  · rw [e0] at hm; cases hm
  cases e0
  have cs := (hcs m hm).1
  rw [HSL.out] at cs
  have hbl := World.block_lt_of_cell? _ _ cs
  have q1 := Int.ediv_nonneg (show 0 ≤ i - sl by omega) (show 0 ≤ c by omega)
  have q2 := Int.ediv_le_self c (show 0 ≤ i - sl by omega)
  have HQ := Lib.hid hq
  have mi : (m : Int) < (rs.length : Int) := by omega
  clear hcs
  go_upto_region 7 with fail
  have hc0 : ¬ c = 0 := by omega
  have wr1 : IntKind.i64.wrap (i - sl) = i - sl := IntWalk.i64_in _ (by omega)
  have wr2 : IntKind.i64.wrap ((i - sl).tdiv c) = (i - sl) / c := by
    rw [Int.tdiv_eq_ediv_of_nonneg (by omega)]
    exact IntWalk.i64_in _ (by omega)
  have wr3 : IntKind.i64.wrap (cn - 1) = cn - 1 := IntWalk.i64_in _ (by omega)
  have wr4 : IntKind.i64.wrap (cn - 1 - q) = cn - 1 - q := IntWalk.i64_in _ (by omega)
  refine wp_region_still_tail 17 (by kernel_rfl) (by kernel_rfl) ?_
  simp only [List.take_succ_cons, List.take_zero, List.drop_succ_cons, List.drop_zero]
  repeat still_step
  still_call ((HCN.out _).mono fun _ _ h => ⟨h.1, h.2.symm⟩)
  repeat still_step
  refine wpStill_nil ?_
  change wpList _ _ _ _ _ w2.drew
  have C4 := C2.out.later (Below.refl w2.heap.size w2).drew
  have B4 := Lib.hid B2.out.drew
  clear cs hbl wr1 wr2 wr3 wr4 hc0 V2 V1 C2 B2
  generalize w2.drew = w3 at *
  obtain ⟨⟨x, c0⟩, ⟨y, c1⟩, ⟨z, c2⟩, f0, f1, f2⟩ := C4
  have ST := Lib.hid (stored3 ⟨⟨x, c0⟩, ⟨y, c1⟩, ⟨z, c2⟩, f0, f1, f2⟩ (.int .i64 (cn - 1 - q)) (.int .i64 m) (.int .i64 ((i - sl) / c)))
  go_wp2_with fail
  (try simp only [Exit.inBlock, Exit.then])
  have D0 := ST.out.1
  have D1 := ST.out.2.1
  have D2 := ST.out.2.2.1
  refine bodyPost_ret (v := .agg #[.int .i64 (cn - 1 - q), .int .i64 m, .int .i64 ((i - sl) / c)]) (by simp [results, Try.results33, D0, D1, D2, go_sem]) rfl ⟨rfl, ?_⟩
  exact B4.out.trans ST.out.2.2.2
end Go.Proofs.Ytpghiebedjogpaa
