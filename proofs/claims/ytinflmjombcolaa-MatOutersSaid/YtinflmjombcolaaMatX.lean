/- Layer 7: Outer where there is no product. -/
import Derived.Test.YtinflmjombcolaaMatW
namespace Go.Proofs.Ytinflmjombcolaa
open Go.RowKit Go.Shelf
set_option linter.unusedVariables false
section
attribute [local go_sem] Oper.semAt_some
set_option maxRecDepth 100000 in
set_option maxHeartbeats 2000000 in
theorem rows_in0 (n : Nat) (l Bm : Nat) (W : World) (J Jx : List (Fin 0) → World → Prop) (hJ : AbidesFrom W.heap.size J) (hbm : BoxM W Bm 0 0 (.slice none 0 0)) (h0 : J [] W) :
    CallsIn Fence.wide n Try.prog 41 #[.func (.yield l) #[] #[], .pointer (some ⟨Bm, 0, none⟩)] W fun e W' => (∃ v, e = .returned v) ∧
      ((∃ ys, ys = [] ∧ J ys W') ∨ (∃ pre, False ∧ Jx pre W')) := by
  have hc0 : W.cell? ⟨Bm, 0, none⟩ = some (.int .i64 0) := hbm.cells.1
  have hbl := hbm.lt
  refine callsIn_of_wp Try.func41 rfl trivial ?_ rfl
  simp only [Try.ntmps41, List.size_toArray, List.length_cons, List.length_nil, Nat.reduceAdd, Nat.reduceSub, Array.replicate_succ, Array.replicate_zero, List.push_toArray, List.append_toArray, List.nil_append, List.cons_append]
  gi_wp2
  have HJ := Lib.hid h0
  clear h0 hJ
  gi_loopw [3, 6] (fun _ i wr => i = .int .i64 0 ∧ wr = W) (fun _ _ _ => 0)
  case atStart => exact ⟨rfl, rfl⟩
  case round =>
    obtain ⟨rfl, rfl⟩ := hrel
    gi_wp2
    go_end0
    exact ⟨⟨_, rfl⟩, .inl ⟨_, rfl, HJ.out⟩⟩
theorem rows_stops0 (n Bm : Nat) (w : World) (hbm : BoxM w Bm 0 0 (.slice none 0 0)) :
    SeqStopsK Fence.wide n Try.prog 41 #[.pointer (some ⟨Bm, 0, none⟩)] (fun (_ : Fin 0) => #[.bool false, .bool false]) (fun _ _ => True) (fun ys => ys = []) (fun _ => False) 0 w := fun l J Jx W hW hJ hJx hY h0 =>
  rows_in0 n l Bm W J Jx hJ ((hW.block _ hbm.lt).trans hbm) h0
theorem outer_none (r c : Int) (h : newB r c = false) (hr : -9223372036854775808 ≤ r ∧ r ≤ 9223372036854775807) (hc : -9223372036854775808 ≤ c ∧ c ≤ 9223372036854775807) (w : World) :
    Calls Try.prog 18 #[.int .i64 r, .int .i64 c] w fun e w' => e = .returned (.agg #[.int .i64 0, .int .i64 0, .slice none 0 0]) ∧ Below w.heap.size w w' := by
  refine (new_mat_any r c hr hc w).mono ?_
  intro e w' hh
  unfold NewMat at hh
  rw [h] at hh
  exact hh
set_option maxRecDepth 100000 in
set_option maxHeartbeats 4000000 in
theorem outer_no (v u : Value) (ys xs : List Int) (q : Int) (hm1 : ys.length ≤ maxLen) (hm2 : xs.length ≤ maxLen) (h : newB ys.length xs.length = false) (w : World) (hv : IntsAt .i64 w.heap.size w v ys) (hu : IntsAt .i64 w.heap.size w u xs) :
    Calls Try.prog 27 #[v, u, .int .i64 q] w (Made 0 0 [] w) := by
  unfold maxLen at hm1 hm2
  obtain ⟨ax, cx, rfl⟩ := ints_value hu
  obtain ⟨ay, cy, rfl⟩ := ints_value hv
  have HN := Lib.hid (fun W => outer_none ys.length xs.length h (by omega) (by omega) W)
  obtain ⟨W0, hW0, by0, bx0, bq0, bz0, B0', hs0⟩ := four_boxes w (.slice ay ys.length cy) (.slice ax xs.length cx) (.int .i64 q)
  have BY0 := Lib.hid by0
  have BX0 := Lib.hid bx0
  have BZ0 := Lib.hid bz0
  have B0 := Lib.hid B0'
  clear hv hu by0 bx0 bq0 bz0 B0' h
  refine (callsIn_wide (n := 8)).1 ?_
  refine callsIn_of_wp_marks Try.func27 rfl trivial ?_ rfl
  simp only [Try.ntmps27, List.size_toArray, List.length_cons, List.length_nil, Nat.reduceAdd, Nat.reduceSub, Array.replicate_succ, Array.replicate_zero, List.push_toArray, List.append_toArray, List.nil_append, List.cons_append]
  gi_upto_region 1 with fail
  try rw [hW0]
  have ky := Boxed.cell BY0.out
  have kx := Boxed.cell BX0.out
  clear hW0
  gi_wp2_with fail
  refine ⟨trivial, ?_⟩
  refine (callsIn_wide.2 (HN.out _)).mono ?_
  rintro e w2 ⟨rfl, b2⟩
  have b3 := (Below.refl w2.heap.size w2).alloc (Nat.le_refl _) (.cells #[.int .i64 0, .int .i64 0, .slice none 0 0] 29)
  have M3 := Lib.hid (BoxM.new w2 0 0 (.slice none 0 0))
  have BZ3 := Lib.hid ((BZ0.out.later b2).later b3)
  have hb2 := b2.size
  rw [hs0] at hb2
  have B3 := Lib.hid (below_step (below_step B0.out b2) b3)
  have hs3 : (w2.alloc (.cells #[.int .i64 0, .int .i64 0, .slice none 0 0] 29)).heap.size = w2.heap.size + 1 := by simp
  have M3' := Lib.hid (show BoxM (w2.alloc (.cells #[.int .i64 0, .int .i64 0, .slice none 0 0] 29)) w2.heap.size 0 0 (.slice none 0 0) from M3.out)
  clear b2 b3 ky kx BY0 BX0 BZ0 B0 M3
  gi_upto_region 2 with fail
  generalize w2.alloc (.cells #[.int .i64 0, .int .i64 0, .slice none 0 0] 29) = W3 at *
  generalize w2.heap.size = T at *
  have k0 : W3.cell? ⟨T, 0, none⟩ = some (.int .i64 0) := M3'.out.cells.1
  have k1 : W3.cell? ⟨T, 1, none⟩ = some (.int .i64 0) := M3'.out.cells.2.1
  have k2 := M3'.out.cells.2.2
  gi_wp2_with fail
  refine ⟨trivial, ?_⟩
  refine (callsIn_wide.2 (rows_any 0 0 none 0 0 _)).mono ?_
  rintro e W4 ⟨rfl, rfl⟩
  gi_wp2_with fail
  have m4 : BoxM (W3.alloc (.cells #[.int .i64 0, .int .i64 0, .slice none 0 0] 29)) W3.heap.size 0 0 (.slice none 0 0) := BoxM.new W3 0 0 (.slice none 0 0)
  rw [hs3] at m4
  have b4 := (Below.refl W3.heap.size W3).alloc (Nat.le_refl _) (.cells #[.int .i64 0, .int .i64 0, .slice none 0 0] 29)
  have M4 := M3'.out.later b4
  have BZ4 := BZ3.out.later b4
  have B4 := below_step B3.out b4
  have hs4 : (W3.alloc (.cells #[.int .i64 0, .int .i64 0, .slice none 0 0] 29)).heap.size = T + 2 := by simp [hs3]
  generalize W3.alloc (.cells #[.int .i64 0, .int .i64 0, .slice none 0 0] 29) = W4 at m4 M4 BZ4 B4 hs4 ⊢
  clear b4 k0 k1 k2 M3' BZ3 B3 hs3 HN
  refine wpIn_rangeFunc_ownH rfl (by omega) (gf := 41) (lb := #[.pointer (some ⟨T + 1, 0, none⟩)]) rfl trivial (enters_of Try.func41 (by kernel_rfl) rfl)
    (rows_stops0 7 (T + 1) W4 m4) (fun _ _ => trivial) (fun _ _ _ _ _ _ _ _ => trivial) (Below.refl _ _) (fun _ => rfl)
    (fun pre W => (BoxM W T 0 0 (.slice none 0 0) ∧ BoxM W (w.heap.size + 1 + 1 + 1) 0 0 (.slice none 0 0)) ∧ Below w.heap.size w W)
    (fun _ _ _ => False)
    (OwnFrom.and (OwnFrom.and (Own.from (boxM_own T 0 0 (.slice none 0 0)) _) (Own.from (boxM_own (w.heap.size + 1 + 1 + 1) 0 0 (.slice none 0 0)) _)) (ownFrom_below (Nat.le_refl _) (by omega)))
    (fun _ _ _ _ _ hs _ _ => hs)
    ⟨⟨M4, BZ4⟩, B4⟩
    (fun x a'' W => False)
    (fun x a'' _ X Y row hs hg hr => hs)
    ?assign ?body ?done ?stop
  case assign =>
    rintro l pre x W K hI hK
    exact x.elim0
  case body =>
    rintro l pre x a'' W hl hrl hI hA hlt
    exact x.elim0
  case done =>
    rintro D ls W hD rfl ⟨⟨hM, hZ⟩, hB⟩ hK
    have ST := Lib.hid (stored3 hZ.cell3 (.int .i64 0) (.int .i64 0) (.slice none 0 0))
    obtain ⟨⟨x, c0⟩, ⟨y, c1⟩, ⟨z, c2⟩, f0, f1, f2⟩ := hZ.cell3
    have t0 : W.cell? ⟨T, 0, none⟩ = some (.int .i64 0) := hM.cells.1
    have t1 : W.cell? ⟨T, 1, none⟩ = some (.int .i64 0) := hM.cells.2.1
    have t2 := hM.cells.2.2
    have HB := Lib.hid hB
    have hZl := hZ.lt
    clear hM hZ hB
    gi_wp2
    have hK1 := (KeepsOthers.setCell W ⟨w.heap.size + 1 + 1 + 1, 0, none⟩ (.int .i64 0)).same D _ hK rfl
    have hK2 := (KeepsOthers.setCell _ ⟨w.heap.size + 1 + 1 + 1, 1, none⟩ (.int .i64 0)).same D _ hK1 rfl
    have hK3 := (KeepsOthers.setCell _ ⟨w.heap.size + 1 + 1 + 1, 2, none⟩ (.slice none 0 0)).same D _ hK2 rfl
    refine ⟨by simp, .inl ⟨_, _, rfl, run_takeDeferred hK3, ?_⟩⟩
    have D0 := ST.out.1
    have D1 := ST.out.2.1
    have D2 := ST.out.2.2.1
    have LZ := HB.out.trans (ST.out.2.2.2.mono (by omega))
    have hlz := World.block_lt_of_cell? _ _ D0
    generalize ((W.setCell ⟨w.heap.size + 1 + 1 + 1, 0, none⟩ (.int .i64 0)).setCell ⟨w.heap.size + 1 + 1 + 1, 1, none⟩ (.int .i64 0)).setCell ⟨w.heap.size + 1 + 1 + 1, 2, none⟩ (.slice none 0 0) = wz at *
    have GP := grownBy_putObj' wz D (Obj.deferred none)
    have E0 := (grown_cell GP hlz (show w.heap.size + 1 + 1 + 1 ≠ D by omega)).trans D0
    have E1 := (grown_cell GP hlz (show w.heap.size + 1 + 1 + 1 ≠ D by omega)).trans D1
    have E2 := (grown_cell GP hlz (show w.heap.size + 1 + 1 + 1 ≠ D by omega)).trans D2
    exact ⟨.agg #[.int .i64 0, .int .i64 0, .slice none 0 0], by simp [results, Try.results27, E0, E1, E2, go_sem], ⟨_, rfl, .inr IntsAt.nil, LZ.trans (belowK_b (w := W4) (by omega) wz D _ _ (by omega) hK3 rfl rfl)⟩⟩
  case stop =>
    rintro D c pre W _ _ h _
    exact h.elim
end
end Go.Proofs.Ytinflmjombcolaa
