/- Layer 8: the reference's ranges. -/
import Derived.Test.YtdnaildhcnekfaaDoorShpH
import Derived.Laws.StructEq
namespace Go.Proofs.YtdnaildhcnekfaaDoor
open Go.RowKit
set_option linter.unusedVariables false
set_option maxHeartbeats 1000000 in
theorem refCount1_any (v : Value) (ss : List Int) (h2 : 1 ≤ ss.length) (h16 : ss.length ≤ 16) (hg : goodTo ss ss.length) (w : World) (hv : IntsAt .i64 w.heap.size w v ss) :
    Calls Tryd.prog 15 #[v] w fun e w' => e = .returned (.int .i64 (stTo ss (ss.length - 1))) ∧ Below w.heap.size w w' := by
  rcases hv.form with ⟨_, e0⟩ | ⟨b, off, cap, rfl, hcap, hb, hcs⟩
  · rw [e0] at h2; simp at h2
  have HCS := Lib.hid hcs
  have HG := Lib.hid hg
  have B0 := Lib.hid (Below.refl w.heap.size w)
  clear hcs hv hg
  go_enter Tryd.func15, Tryd.ntmps15
  go_wp2_with fail
  go_loopw [3, 4] (fun nv iv wr => ∃ k : Nat, k ≤ ss.length - 1 ∧ iv = .int .i64 k ∧ nv = .int .i64 (stTo ss k) ∧ Hid (Below w.heap.size w wr)) (fun _ iv _ => ss.length - (intOf iv).toNat)
  case atStart => exact ⟨0, Nat.zero_le _, rfl, rfl, B0⟩
  case round =>
    obtain ⟨k, hk, rfl, rfl, HB⟩ := hrel
    by_cases hlt : k < ss.length - 1
    · have g1 := goodB_iff.1 (HG.out k (by omega))
      have g2 := goodB_iff.1 (HG.out (k + 1) (by omega))
      have rg := st_range (k := k) HG.out (by omega)
      have sp := st_step (k := k) HG.out (by omega)
      have c1 := (HB.out.cell (p := ⟨b, off + k, none⟩) hb).trans (HCS.out k (by omega))
      have c2 := (HB.out.cell (p := ⟨b, off + (k + 1), none⟩) hb).trans (HCS.out (k + 1) (by omega))
      have hbw : b < wr.heap.size := World.block_lt_of_cell? _ _ c1
      have HS : Hid (stTo ss (k + 1) = stTo ss k + (ss[k]?.getD 0 + 1) * ss[k + 1]?.getD 0) := Lib.hid rfl
      have w0 : IntKind.i64.wrap (ss[k]?.getD 0 + 1) = ss[k]?.getD 0 + 1 := IntWalk.i64_in _ (by omega)
      have w1 : IntKind.i64.wrap ((ss[k]?.getD 0 + 1) * ss[k + 1]?.getD 0) = (ss[k]?.getD 0 + 1) * ss[k + 1]?.getD 0 := IntWalk.i64_in _ (by omega)
      have w2 : IntKind.i64.wrap (stTo ss k + (ss[k]?.getD 0 + 1) * ss[k + 1]?.getD 0) = stTo ss k + (ss[k]?.getD 0 + 1) * ss[k + 1]?.getD 0 := IntWalk.i64_in _ (by omega)
      have w3 : IntKind.i64.wrap ((k : Int) + 1) = ((k + 1 : Nat) : Int) := IntWalk.i64_in _ (by omega)
      have i1 : (k : Int) < ss.length := by omega
      have i2 : ((k + 1 : Nat) : Int) < ss.length := by omega
      clear rg
      generalize stTo ss k = s at *
      generalize ss[k]?.getD 0 = x at *
      generalize ss[k + 1]?.getD 0 = y at *
      go_wp2_with fail
      go_quiet (fail)
      have B2 := Lib.hid (below_drewN HB.out nq)
      generalize (World.drewN _ nq) = W2 at *
      go_wp2_with fail
      go_roundw
      case rel => exact ⟨k + 1, by omega, by go_num, by rw [HS.out], B2⟩
      case measure => simp [intOf]; omega
    · have hke : k = ss.length - 1 := by omega
      have HKE := Lib.hid hke
      clear hke
      have hge : ss.length ≤ k + 1 := by omega
      go_wp2_with fail
      go_ret
      rw [HKE.out]
      exact ⟨rfl, HB.out⟩
theorem stTo_take (ss : List Int) (m : Nat) : ∀ j, j < m → stTo (ss.take m) j = stTo ss j
  | 0, _ => rfl
  | j + 1, h => by
    show stTo (ss.take m) j + ((ss.take m)[j]?.getD 0 + 1) * (ss.take m)[j + 1]?.getD 0 = stTo ss j + (ss[j]?.getD 0 + 1) * ss[j + 1]?.getD 0
    rw [stTo_take ss m j (by omega), List.getElem?_take, if_pos (by omega), List.getElem?_take, if_pos h]
theorem goodTo_take {ss : List Int} (h : goodTo ss ss.length) (m : Nat) (hm : m ≤ ss.length) : goodTo (ss.take m) (ss.take m).length := fun j hj => by
  rw [List.length_take] at hj
  rw [List.getElem?_take, if_pos (by omega)]
  exact h j (by omega)
/-- the reference's count of a front part -/
theorem refCountTo_any (a : Option Addr) (cap : Nat) (ss : List Int) (hr : RightH ss) (m : Nat) (h1 : 1 ≤ m) (hm : m ≤ ss.length) (w : World) (hv : IntsAt .i64 w.heap.size w (.slice a ss.length cap) ss) :
    Calls Tryd.prog 15 #[.slice a m cap] w fun e w' => e = .returned (.int .i64 (stTo ss (m - 1))) ∧ Below w.heap.size w w' := by
  have hl : (ss.take m).length = m := by rw [List.length_take]; omega
  have := refCount1_any (.slice a m cap) (ss.take m) (by omega) (by have := hr.l16; omega) (goodTo_take hr.good m hm) w (hv.take hm)
  rw [hl, stTo_take ss m (m - 1) (by omega)] at this
  exact this
theorem equalIn_range (a b p q : Int) (w : World) : (Op.equalIn 10000 34 (.agg #[.int .i64 a, .int .i64 b]) (.agg #[.int .i64 p, .int .i64 q])).run Tryd.prog w = .ok ([a, b] == [p, q]) w := by
  rw [run_equalIn_agg w 9999 34 _ _ (by kernel_rfl) (by kernel_rfl)]
  have hpart : ∀ (xs : Array Value) (i : Nat) (x : Value), xs[i]? = some x → (part 3 xs i).run Tryd.prog w = .ok x w := by
    intro xs i x h
    simp [part, isAgg, run_underlying Tryd.underlying3, h]
  have hE : ∀ x y : Int, (Op.equalIn 9999 3 (.int .i64 x) (.int .i64 y)).run Tryd.prog w = .ok (x == y) w := fun x y => run_equalIn_int w 9998 3 .i64 .i64 x y Tryd.underlying3
  simp only [Program.fieldsOf, Tryd.underlying34]
  have g0 := hpart #[.int .i64 a, .int .i64 b] 0 (.int .i64 a) rfl
  have g1 := hpart #[.int .i64 a, .int .i64 b] 1 (.int .i64 b) rfl
  have k0 := hpart #[.int .i64 p, .int .i64 q] 0 (.int .i64 p) rfl
  have k1 := hpart #[.int .i64 p, .int .i64 q] 1 (.int .i64 q) rfl
  clear hpart
  simp only [Op.eqFields, ne_eq, String.reduceEq, not_false_eq_true, if_true, Sem.run_bind, Sem.run_ite, g0, g1, k0, k1, hE, Result.andThen_ok, Sem.run_pure]
  by_cases h0 : a = p
  · by_cases h1 : b = q
    · simp [h0, h1]
    · simp [h0, h1]
  · simp [h0]
theorem neq_range (a b : Int) (w : World) : (binOp .neq 34 (.agg #[.int .i64 a, .int .i64 b]) (.agg #[.int .i64 a, .int .i64 b])).run Tryd.prog w = .ok (.bool false) w := by
  rw [run_neq_struct, equalIn_range, beq_self_eq_true]
  rfl
set_option maxRecDepth 4000 in
set_option maxHeartbeats 1000000 in
theorem refWeights_in (v : Value) (ss : List Int) (hr : RightH ss) (k : Nat) (hk : k + 1 < ss.length) (w : World) (hv : IntsAt .i64 w.heap.size w v ss) :
    Calls Tryd.prog 17 #[v, .int .i64 k] w fun e w' => e = .returned (.agg #[.int .i64 (wR ss k).1, .int .i64 (wR ss k).2]) ∧ Below w.heap.size w w' := by
  have h16 := hr.l16
  have r1 := st_range (k := k) hr.good (.inl (by omega))
  have r2 := goodB_iff.1 (hr.good k (by omega))
  have r3 := goodB_iff.1 (hr.good (k + 1) hk)
  have bA := (Below.refl w.heap.size w).alloc (Nat.le_refl _) (.cells #[.int .i64 0, .int .i64 0] 34)
  have hA := hv.later bA
  have T := Two.new w 34 (.int .i64 0) (.int .i64 0)
  rcases hv.form with ⟨_, e0⟩ | ⟨g, off, cap, rfl, hcap, hb, hcs⟩
  · rw [e0] at hk; simp at hk
  have hC := refCountTo_any (some ⟨g, off, none⟩) cap ss hr (k + 1) (by omega) (by omega) _ hA
  rw [Nat.add_sub_cancel] at hC
  have HCS := Lib.hid hcs
  have HT := Lib.hid T
  have hp0 : 0 ≤ ss[k]?.getD 0 * ss[k + 1]?.getD 0 := Int.mul_nonneg (by omega) (by omega)
  have hp1 : ss[k]?.getD 0 * ss[k + 1]?.getD 0 ≤ 1048576 * 1048576 := Int.mul_le_mul r2.2 r3.2 (by omega) (by omega)
  have HX : Hid (wR ss k = (stTo ss k, stTo ss k + ss[k]?.getD 0 * ss[k + 1]?.getD 0)) := Lib.hid (by
    unfold wR
    show (stTo ss k, stTo ss k + (ss[k]?.getD 0 + 1) * ss[k + 1]?.getD 0 - ss[k + 1]?.getD 0) = _
    rw [Int.add_mul, Int.one_mul]
    congr 1
    omega)
  clear hcs hv T hA
  have g1 : decide ((k : Int) < 0) = false := by simp
  have g0 : ¬ (k : Int) < 0 := by omega
  have wl : IntKind.i64.wrap ((ss.length : Int) - 1) = (ss.length : Int) - 1 := IntWalk.i64_in _ (by omega)
  have g2 : decide ((ss.length : Int) - 1 ≤ (k : Int)) = false := by simp; omega
  have wk : IntKind.i64.wrap ((k : Int) + 1) = ((k + 1 : Nat) : Int) := (IntWalk.i64_in _ (by omega)).trans (by omega)
  have wk2 : (k : Int) + 1 = ((k + 1 : Nat) : Int) := by omega
  have i0 : (0 : Int) ≤ (k : Int) := by omega
  have i1 : (k : Int) < (ss.length : Int) := by omega
  have d0 := HCS.out k (by omega)
  have d1 := HCS.out (k + 1) hk
  generalize stTo ss k = x0 at *
  generalize ss[k]?.getD 0 = y0 at *
  generalize ss[k + 1]?.getD 0 = y1 at *
  have wm : IntKind.i64.wrap (y0 * y1) = y0 * y1 := IntWalk.i64_in _ (by omega)
  have wa : IntKind.i64.wrap (x0 + y0 * y1) = x0 + y0 * y1 := IntWalk.i64_in _ (by omega)
  obtain ⟨k1, hk1⟩ : ∃ k1, k1 = k + 1 := ⟨_, rfl⟩
  rw [← hk1] at wk wk2 d1 hC
  have hkk : k1 ≤ ss.length := by omega
  have i2 : (0 : Int) ≤ (k1 : Int) := by omega
  have i3 : (k1 : Int) < (ss.length : Int) := by omega
  have i4 : (k1 : Int) ≤ (cap : Int) := by omega
  have wkk : IntKind.i64.wrap (k1 : Int) = k1 := IntWalk.i64_in _ (by omega)
  clear hk1 hp0 hp1 r1 r2 r3
  go_enter Tryd.func17, Tryd.ntmps17
  go_wp2_with fail
  refine hC.mono ?_
  rintro e w1 ⟨rfl, b1⟩
  have T1 := HT.out.later b1
  have hbb := bA.trans (b1.mono bA.size)
  have B1 := Lib.hid hbb
  have hsz : w.heap.size < w1.heap.size := T1.lt
  replace d0 := cell_step hbb d0
  replace d1 := cell_step hbb d1
  clear HT hC bA b1 hbb HCS
  obtain ⟨t0, t1⟩ := T1.cells
  have f0 := T1.frozen 0
  have f1 := T1.frozen 1
  have HTT := Lib.hid T1
  clear T1
  go_upto_region 4 with fail
  refine wp_region_held_drew (S := fun w' => w'.cell? ⟨g, off + k, none⟩ = some (.int .i64 y0) ∧ w'.cell? ⟨g, off + k1, none⟩ = some (.int .i64 y1)) (by kernel_rfl) ?_ (fun hHeld => ?_)
  · exact ⟨d0, d1⟩
  refine wpAnyH_take (i := 0) (v := ?v1) rfl (by kernel_rfl) (by kernel_rfl) (by kernel_rfl) (fun _ _ _ h => h) (Or.inl ⟨by rfl, ?hy1⟩) (by assumption) ?rest1
  case hy1 => (intro w hSw; (try dsimp only at hSw); go_simp; (first | done | with_reducible rfl))
  simp only [Act.put, List.setIfInBounds_toArray, List.set_cons_zero, List.set_cons_succ, List.getElem_toArray, List.getElem_cons_zero]
  refine wpAnyH_take (i := 1) (v := ?v2) rfl (by kernel_rfl) (by kernel_rfl) (by kernel_rfl) (fun _ _ _ h => h) (Or.inl ⟨by rfl, ?hy2⟩) (by assumption) ?rest2
  case hy2 => (intro w hSw; (try dsimp only at hSw); go_simp; (first | done | with_reducible rfl))
  simp only [Act.put, List.setIfInBounds_toArray, List.set_cons_zero, List.set_cons_succ, List.getElem_toArray, List.getElem_cons_zero, List.getElem_cons_succ]
  refine wpAnyH_take (i := 2) (v := ?v3) rfl (by kernel_rfl) (by kernel_rfl) (by kernel_rfl) (fun _ _ _ h => h) (Or.inl ⟨by rfl, ?hy3⟩) (by assumption) ?rest3
  case hy3 => (intro w hSw; (try dsimp only at hSw); go_simp; (first | done | with_reducible rfl))
  simp only [Act.put, List.setIfInBounds_toArray, List.set_cons_zero, List.set_cons_succ, List.getElem_toArray, List.getElem_cons_zero, List.getElem_cons_succ]
  refine wpAnyH_take (i := 3) (v := ?v4) rfl (by kernel_rfl) (by kernel_rfl) (by kernel_rfl) (fun _ _ _ h => h) (Or.inl ⟨by rfl, ?hy4⟩) (by assumption) ?rest4
  case hy4 => (intro w hSw; (try dsimp only at hSw); go_simp; (first | done | with_reducible rfl))
  simp only [Act.put, List.setIfInBounds_toArray, List.set_cons_zero, List.set_cons_succ, List.getElem_toArray, List.getElem_cons_zero, List.getElem_cons_succ]
  refine wpAnyH_take (i := 4) (v := ?v5) rfl (by kernel_rfl) (by kernel_rfl) (by kernel_rfl) (fun _ _ _ h => h) (Or.inl ⟨by rfl, ?hy5⟩) (by assumption) ?rest5
  case hy5 => (intro w hSw; (try dsimp only at hSw); go_simp; (first | done | with_reducible rfl))
  simp only [Act.put, List.setIfInBounds_toArray, List.set_cons_zero, List.set_cons_succ, List.getElem_toArray, List.getElem_cons_zero, List.getElem_cons_succ]
  refine wpAnyH_take (i := 5) (v := ?v6) rfl (by kernel_rfl) (by kernel_rfl) (by kernel_rfl) (fun _ _ _ h => h) (Or.inl ⟨by rfl, ?hy6⟩) (by assumption) ?rest6
  case hy6 => (intro w hSw; (try dsimp only at hSw); go_simp; (first | done | with_reducible rfl))
  simp only [Act.put, List.setIfInBounds_toArray, List.set_cons_zero, List.set_cons_succ, List.getElem_toArray, List.getElem_cons_zero, List.getElem_cons_succ]
  refine wpAnyH_take (i := 6) (v := ?v7) rfl (by kernel_rfl) (by kernel_rfl) (by kernel_rfl) (fun _ _ _ h => h) (Or.inl ⟨by rfl, ?hy7⟩) (by assumption) ?rest7
  case hy7 => (intro w hSw; (try dsimp only at hSw); go_simp; (first | done | with_reducible rfl))
  simp only [Act.put, List.setIfInBounds_toArray, List.set_cons_zero, List.set_cons_succ, List.getElem_toArray, List.getElem_cons_zero, List.getElem_cons_succ]
  refine wpAnyH_take (i := 7) (v := ?v8) rfl (by kernel_rfl) (by kernel_rfl) (by kernel_rfl) (fun _ _ _ h => h) (Or.inl ⟨by rfl, ?hy8⟩) (by assumption) ?rest8
  case hy8 => (intro w hSw; (try dsimp only at hSw); go_simp; (first | done | with_reducible rfl))
  simp only [Act.put, List.setIfInBounds_toArray, List.set_cons_zero, List.set_cons_succ, List.getElem_toArray, List.getElem_cons_zero, List.getElem_cons_succ]
  refine wpAnyH_take (i := 8) (v := ?v9) rfl (by kernel_rfl) (by kernel_rfl) (by kernel_rfl) (fun _ _ _ h => h) (Or.inl ⟨by rfl, ?hy9⟩) (by assumption) ?rest9
  case hy9 => (intro w hSw; (try dsimp only at hSw); go_simp; (first | done | with_reducible rfl))
  simp only [Act.put, List.setIfInBounds_toArray, List.set_cons_zero, List.set_cons_succ, List.getElem_toArray, List.getElem_cons_zero, List.getElem_cons_succ]
  refine wpAnyH_take (i := 9) (v := ?v10) rfl (by kernel_rfl) (by kernel_rfl) (by kernel_rfl) (fun _ _ _ h => h) (Or.inl ⟨by rfl, ?hy10⟩) (by assumption) ?rest10
  case hy10 => (intro w hSw; (try dsimp only at hSw); go_simp; (first | done | with_reducible rfl))
  simp only [Act.put, List.setIfInBounds_toArray, List.set_cons_zero, List.set_cons_succ, List.getElem_toArray, List.getElem_cons_zero, List.getElem_cons_succ]
  refine wpAnyH_take (i := 10) (v := ?v11) rfl (by kernel_rfl) (by kernel_rfl) (by kernel_rfl) (fun _ _ _ h => h) (Or.inl ⟨by rfl, ?hy11⟩) (by assumption) ?rest11
  case hy11 => (intro w hSw; (try dsimp only at hSw); go_simp; (first | done | with_reducible rfl))
  simp only [Act.put, List.setIfInBounds_toArray, List.set_cons_zero, List.set_cons_succ, List.getElem_toArray, List.getElem_cons_zero, List.getElem_cons_succ]
  refine wpAnyH_take (i := 11) (v := ?v12) rfl (by kernel_rfl) (by kernel_rfl) (by kernel_rfl) (fun _ _ _ h => h) (Or.inl ⟨by rfl, ?hy12⟩) (by assumption) ?rest12
  case hy12 => (intro w hSw; (try dsimp only at hSw); go_simp; (first | done | with_reducible rfl))
  simp only [Act.put, List.setIfInBounds_toArray, List.set_cons_zero, List.set_cons_succ, List.getElem_toArray, List.getElem_cons_zero, List.getElem_cons_succ]
  refine wpAnyH_take (i := 12) (v := ?v13) rfl (by kernel_rfl) (by kernel_rfl) (by kernel_rfl) (fun _ _ _ h => h) (Or.inl ⟨by rfl, ?hy13⟩) (by assumption) ?rest13
  case hy13 => (intro w hSw; (try dsimp only at hSw); go_simp; (first | done | with_reducible rfl))
  simp only [Act.put, List.setIfInBounds_toArray, List.set_cons_zero, List.set_cons_succ, List.getElem_toArray, List.getElem_cons_zero, List.getElem_cons_succ]
  refine wpAnyH_take (i := 13) (v := ?v14) rfl (by kernel_rfl) (by kernel_rfl) (by kernel_rfl) (fun _ _ _ h => h) (Or.inl ⟨by rfl, ?hy14⟩) (by assumption) ?rest14
  case hy14 => (intro w hSw; (try dsimp only at hSw); go_simp; (first | done | with_reducible rfl))
  simp only [Act.put, List.setIfInBounds_toArray, List.set_cons_zero, List.set_cons_succ, List.getElem_toArray, List.getElem_cons_zero, List.getElem_cons_succ]
  refine wpAnyH_ready (rs := [14]) (by kernel_rfl) (by simp) ?_
  refine AllReadyH.cons rfl (fun K hK => ?_) AllReadyH.nil
  simp only [List.getElem_toArray, List.getElem_cons_zero, List.getElem_cons_succ]
  go_simp
  have SS0 := HTT.out.store (.int .i64 x0) (.int .i64 (x0 + y0 * y1))
  have G0 := grown_trans (grown_set w1 w.heap.size 0 (.int .i64 x0)) (grown_set _ w.heap.size 1 (.int .i64 (x0 + y0 * y1)))
  have bd : Below ((w1.setCell ⟨w.heap.size, 0, none⟩ (.int .i64 x0)).setCell ⟨w.heap.size, 1, none⟩ (.int .i64 (x0 + y0 * y1))).heap.size ((w1.setCell ⟨w.heap.size, 0, none⟩ (.int .i64 x0)).setCell ⟨w.heap.size, 1, none⟩ (.int .i64 (x0 + y0 * y1))) ((w1.setCell ⟨w.heap.size, 0, none⟩ (.int .i64 x0)).setCell ⟨w.heap.size, 1, none⟩ (.int .i64 (x0 + y0 * y1))).drew := (Below.refl _ _).drew
  have SS := SS0.later bd
  have G := grown_trans G0 (grown_below bd (some w.heap.size))
  have BB := Lib.hid ((below_set (o := 1) (x := .int .i64 (x0 + y0 * y1)) (below_set (o := 0) (x := .int .i64 x0) B1.out (Nat.le_refl _)) (Nat.le_refl _)).drew)
  refine hK.out _ _ ⟨cell?_far G (by omega) d0 trivial, cell?_far G (by omega) d1 trivial⟩ (fun hHeld => ?_)
  clear hK K
  try simp only [Act.put, List.setIfInBounds_toArray, List.set_cons_zero, List.set_cons_succ, List.getElem_toArray, List.getElem_cons_zero, List.getElem_cons_succ]
  refine wpAnyH_done (by kernel_rfl) ?_ _
  clear hHeld d0 d1 G G0 SS0 bd t0 t1 f0 f1
  generalize ((w1.setCell ⟨w.heap.size, 0, none⟩ (.int .i64 x0)).setCell ⟨w.heap.size, 1, none⟩ (.int .i64 (x0 + y0 * y1))).drew = W at *
  obtain ⟨z0, z1⟩ := SS.cells
  go_upto_region 5 with fail
  refine bodyPost_ret (v := .agg #[.int .i64 x0, .int .i64 (x0 + y0 * y1)]) ?_ rfl ⟨by rw [HX.out], BB.out⟩
  clear SS BB
  simp [results, Tryd.results17, z0, z1, go_sem]
set_option maxRecDepth 4000 in
set_option maxHeartbeats 400000 in
theorem refBiases_in (v : Value) (ss : List Int) (hr : RightH ss) (k : Nat) (hk : k + 1 < ss.length) (w : World) (hv : IntsAt .i64 w.heap.size w v ss) :
    Calls Tryd.prog 19 #[v, .int .i64 k] w fun e w' => e = .returned (.agg #[.int .i64 (bR ss k).1, .int .i64 (bR ss k).2]) ∧ Below w.heap.size w w' := by
  have h16 := hr.l16
  have bA := (Below.refl w.heap.size w).alloc (Nat.le_refl _) (.cells #[.int .i64 0, .int .i64 0] 34)
  have T := Two.new w 34 (.int .i64 0) (.int .i64 0)
  have HX : Hid (bR ss k = ((wR ss k).2, stTo ss (k + 1))) := Lib.hid rfl
  rcases hv.form with ⟨_, e0⟩ | ⟨g, off, cap, rfl, hcap, hb, _⟩
  · rw [e0] at hk; simp at hk
  have hvA := Lib.hid (fun W (hb : Below w.heap.size w W) => hv.later hb)
  have HW := Lib.hid (fun W (hb : Below w.heap.size w W) => refWeights_in _ ss hr k hk W (hvA.out W hb))
  have HC := Lib.hid (fun W (hb : Below w.heap.size w W) => refCountTo_any (some ⟨g, off, none⟩) cap ss hr (k + 2) (by omega) (by omega) W (hvA.out W hb))
  rw [show k + 2 - 1 = k + 1 by omega] at HC
  have HT := Lib.hid T
  clear hv T hvA
  have g1 : decide ((k : Int) < 0) = false := by simp
  have g0 : ¬ (k : Int) < 0 := by omega
  have wl : IntKind.i64.wrap ((ss.length : Int) - 1) = (ss.length : Int) - 1 := IntWalk.i64_in _ (by omega)
  have g2 : decide ((ss.length : Int) - 1 ≤ (k : Int)) = false := by simp; omega
  have wk : IntKind.i64.wrap ((k : Int) + 2) = ((k + 2 : Nat) : Int) := (IntWalk.i64_in _ (by omega)).trans (by omega)
  have wk2 : (k : Int) + 2 = ((k + 2 : Nat) : Int) := by omega
  generalize stTo ss (k + 1) = x1 at *
  generalize wR ss k = p at *
  obtain ⟨p0, p1⟩ := p
  dsimp only at HW HX
  obtain ⟨k2, hk2⟩ : ∃ k2, k2 = k + 2 := ⟨_, rfl⟩
  rw [← hk2] at wk wk2 HC
  have hkk : k2 ≤ ss.length := by omega
  have i2 : (0 : Int) ≤ (k2 : Int) := by omega
  have i4 : (k2 : Int) ≤ (cap : Int) := by omega
  have wkk : IntKind.i64.wrap (k2 : Int) = k2 := IntWalk.i64_in _ (by omega)
  clear hk2
  go_enter Tryd.func19, Tryd.ntmps19
  go_upto_region 3 with fail
  generalize w.alloc (.cells #[.int .i64 0, .int .i64 0] 34) = w0 at *
  refine wp_region_held_drew (S := fun w' => True) (by kernel_rfl) trivial (fun hHeld => ?_)
  have bX : Below w0.heap.size w0 w0.drew := (Below.refl _ _).drew
  have hs0 : w.heap.size < w0.heap.size := HT.out.lt
  refine wpAnyH_take (i := 0) (v := ?v15) rfl (by kernel_rfl) (by kernel_rfl) (by kernel_rfl) (fun _ _ _ h => h) (Or.inl ⟨by rfl, ?hy15⟩) (by assumption) ?rest15
  case hy15 => (intro w hSw; (try dsimp only at hSw); go_simp; (first | done | with_reducible rfl))
  simp only [Act.put, List.setIfInBounds_toArray, List.set_cons_zero, List.set_cons_succ, List.getElem_toArray, List.getElem_cons_zero]
  refine wpAnyH_take (i := 1) (v := ?v16) rfl (by kernel_rfl) (by kernel_rfl) (by kernel_rfl) (fun _ _ _ h => h) (Or.inl ⟨by rfl, ?hy16⟩) (by assumption) ?rest16
  case hy16 => (intro w hSw; (try dsimp only at hSw); go_simp; (first | done | with_reducible rfl))
  simp only [Act.put, List.setIfInBounds_toArray, List.set_cons_zero, List.set_cons_succ, List.getElem_toArray, List.getElem_cons_zero, List.getElem_cons_succ]
  refine wpAnyH_take (i := 4) (v := ?v17) rfl (by kernel_rfl) (by kernel_rfl) (by kernel_rfl) (fun _ _ _ h => h) (Or.inl ⟨by rfl, ?hy17⟩) (by assumption) ?rest17
  case hy17 => (intro w hSw; (try dsimp only at hSw); go_simp; (first | done | with_reducible rfl))
  simp only [Act.put, List.setIfInBounds_toArray, List.set_cons_zero, List.set_cons_succ, List.getElem_toArray, List.getElem_cons_zero, List.getElem_cons_succ]
  refine wpAnyH_take (i := 5) (v := ?v18) rfl (by kernel_rfl) (by kernel_rfl) (by kernel_rfl) (fun _ _ _ h => h) (Or.inl ⟨by rfl, ?hy18⟩) (by assumption) ?rest18
  case hy18 => (intro w hSw; (try dsimp only at hSw); go_simp; (first | done | with_reducible rfl))
  simp only [Act.put, List.setIfInBounds_toArray, List.set_cons_zero, List.set_cons_succ, List.getElem_toArray, List.getElem_cons_zero, List.getElem_cons_succ]
  refine wpAnyH_take (i := 6) (v := ?v19) rfl (by kernel_rfl) (by kernel_rfl) (by kernel_rfl) (fun _ _ _ h => h) (Or.inl ⟨by rfl, ?hy19⟩) (by assumption) ?rest19
  case hy19 => (intro w hSw; (try dsimp only at hSw); go_simp; (first | done | with_reducible rfl))
  simp only [Act.put, List.setIfInBounds_toArray, List.set_cons_zero, List.set_cons_succ, List.getElem_toArray, List.getElem_cons_zero, List.getElem_cons_succ]
  refine wpAnyH_take (i := 7) (v := ?v20) rfl (by kernel_rfl) (by kernel_rfl) (by kernel_rfl) (fun _ _ _ h => h) (Or.inl ⟨by rfl, ?hy20⟩) (by assumption) ?rest20
  case hy20 => (intro w hSw; (try dsimp only at hSw); go_simp; (first | done | with_reducible rfl))
  simp only [Act.put, List.setIfInBounds_toArray, List.set_cons_zero, List.set_cons_succ, List.getElem_toArray, List.getElem_cons_zero, List.getElem_cons_succ]
  clear hHeld
  have hHeld : True := trivial
  generalize w0.drew = X at *
  clear g0 g1 g2 wl wk wk2 wkk i2 i4 hkk hk hr h16
  refine wpAnyH_ready (rs := [2]) (by kernel_rfl) (by simp) ?_
  refine AllReadyH.cons rfl (fun K hK => ?_) AllReadyH.nil
  simp only [List.getElem_toArray, List.getElem_cons_zero, List.getElem_cons_succ]
  go_simp
  go_at_call 17
  refine (HW.out _ (bA.trans (bX.mono bA.size))).mono ?_
  rintro e w2 ⟨rfl, b2⟩
  have bY := bX.trans (b2.mono bX.size)
  go_wp2_with fail
  refine hK.out _ _ trivial (fun hHeld => ?_)
  clear hK K
  have hfd : ∀ W : World, (Instr.field 34 (.agg #[.int .i64 p0, .int .i64 p1]) 1).run Tryd.prog W = .ok (.int .i64 p1) W := fun _ => by kernel_rfl
  try simp only [Act.put, List.setIfInBounds_toArray, List.set_cons_zero, List.set_cons_succ, List.getElem_toArray, List.getElem_cons_zero, List.getElem_cons_succ]
  refine wpAnyH_take (i := 3) (v := ?v21) rfl (by kernel_rfl) (by kernel_rfl) (by kernel_rfl) (fun _ _ _ h => h) (Or.inl ⟨by rfl, ?hy21⟩) (by assumption) ?rest21
  case hy21 => (intro w hSw; (try dsimp only at hSw); go_simp; (first | done | with_reducible rfl))
  simp only [Act.put, List.setIfInBounds_toArray, List.set_cons_zero, List.set_cons_succ, List.getElem_toArray, List.getElem_cons_zero, List.getElem_cons_succ]
  clear hfd
  refine wpAnyH_ready (rs := [8]) (by kernel_rfl) (by simp) ?_
  refine AllReadyH.cons rfl (fun K hK => ?_) AllReadyH.nil
  simp only [List.getElem_toArray, List.getElem_cons_zero, List.getElem_cons_succ]
  go_simp
  go_at_call 15
  refine (HC.out _ (bA.trans (bY.mono bA.size))).mono ?_
  rintro e w3 ⟨rfl, b3⟩
  have bZ := bY.trans (b3.mono bY.size)
  go_wp2_with fail
  refine hK.out _ _ trivial (fun hHeld => ?_)
  clear hK K b2 b3 bY
  have T3 := HT.out.later bZ
  have B3 := Lib.hid (bA.trans (bZ.mono bA.size))
  obtain ⟨t0, t1⟩ := T3.cells
  have f0 := T3.frozen 0
  have f1 := T3.frozen 1
  clear bZ
  try simp only [Act.put, List.setIfInBounds_toArray, List.set_cons_zero, List.set_cons_succ, List.getElem_toArray, List.getElem_cons_zero, List.getElem_cons_succ]
  refine wpAnyH_take (i := 9) (v := ?v22) rfl (by kernel_rfl) (by kernel_rfl) (by kernel_rfl) (fun _ _ _ h => h) (Or.inl ⟨by rfl, ?hy22⟩) (by assumption) ?rest22
  case hy22 => (intro w hSw; (try dsimp only at hSw); go_simp; (first | done | with_reducible rfl))
  simp only [Act.put, List.setIfInBounds_toArray, List.set_cons_zero, List.set_cons_succ, List.getElem_toArray, List.getElem_cons_zero, List.getElem_cons_succ]
  refine wpAnyH_ready (rs := [10]) (by kernel_rfl) (by simp) ?_
  refine AllReadyH.cons rfl (fun K hK => ?_) AllReadyH.nil
  simp only [List.getElem_toArray, List.getElem_cons_zero, List.getElem_cons_succ]
  go_simp
  refine hK.out _ _ trivial (fun hHeld => ?_)
  clear hK K
  try simp only [Act.put, List.setIfInBounds_toArray, List.set_cons_zero, List.set_cons_succ, List.getElem_toArray, List.getElem_cons_zero, List.getElem_cons_succ]
  refine wpAnyH_done (by kernel_rfl) ?_ _
  have SS := T3.store (.int .i64 p1) (.int .i64 x1)
  have BB := Lib.hid (below_set (o := 1) (x := .int .i64 x1) (below_set (o := 0) (x := .int .i64 p1) B3.out (Nat.le_refl _)) (Nat.le_refl _))
  clear t0 t1 f0 f1 T3
  generalize (w3.setCell ⟨w.heap.size, 0, none⟩ (.int .i64 p1)).setCell ⟨w.heap.size, 1, none⟩ (.int .i64 x1) = W at *
  obtain ⟨z0, z1⟩ := SS.cells
  go_upto_region 4 with fail
  refine bodyPost_ret (v := .agg #[.int .i64 p1, .int .i64 x1]) ?_ rfl ⟨by rw [HX.out], BB.out⟩
  clear SS BB
  simp [results, Tryd.results19, z0, z1, go_sem]
end Go.Proofs.YtdnaildhcnekfaaDoor
