/- Layer 7: Outer. -/
import Derived.Test.YtinflmjombcolaaMatU
import Derived.Test.YtinflmjombcolaaCopP
namespace Go.Proofs.Ytinflmjombcolaa
open Go.RowKit Go.Shelf
set_option linter.unusedVariables false
theorem splice_map (zs : List Int) (off : Nat) (ys : List Int) : splice (zs.map (Value.int .i64)) off (ys.map (Value.int .i64)) = (patch zs off ys).map (Value.int .i64) := by
  unfold splice patch
  simp
theorem own_src {w : World} {base n : Nat} {e : TypeId} {c : Nat} {p : Option Addr} {zs : List Int} (h : w.ownsRow base e 1 (.slice p n c) n (zs.map (Value.int .i64))) (hn : 0 < n) : ∃ ad, p = some ad ∧ ∀ j u, (zs.map (Value.int .i64))[j]? = some u → w.cell? (ad.add j) = some u := by
  obtain ⟨g, c', e0, _, _⟩ := own_some h hn
  cases e0
  refine ⟨_, rfl, fun j u hj => ?_⟩
  rw [Go.WideShapes.add_plain, Nat.zero_add]
  have hlt : j < n * 1 := by
    apply Nat.lt_of_not_le
    intro hge
    rw [List.getElem?_eq_none (by rw [← h.1] at hge; exact hge)] at hj
    cases hj
  rw [h.cellAt j hlt]
  exact hj
theorem four_boxes (w : World) (yv xv qv : Value) : ∃ W4, (((w.alloc (.cells #[yv] 27)).alloc (.cells #[xv] 27)).alloc (.cells #[qv] 3)).alloc (.cells #[.int .i64 0, .int .i64 0, .slice none 0 0] 29) = W4 ∧
    Boxed W4 w.heap.size 27 yv ∧ Boxed W4 (w.heap.size + 1) 27 xv ∧ Boxed W4 (w.heap.size + 1 + 1) 3 qv ∧ BoxM W4 (w.heap.size + 1 + 1 + 1) 0 0 (.slice none 0 0) ∧ Below w.heap.size w W4 ∧ W4.heap.size = w.heap.size + 4 := by
  refine ⟨_, rfl, ?_, ?_, ?_, ?_, ?_, by simp⟩
  · exact ((((Boxed.new w 27 yv).alloc _).alloc _).alloc _)
  · have h := Boxed.new (w.alloc (.cells #[yv] 27)) 27 xv
    rw [World.size_alloc] at h
    exact (h.alloc _).alloc _
  · have h := Boxed.new ((w.alloc (.cells #[yv] 27)).alloc (.cells #[xv] 27)) 3 qv
    rw [World.size_alloc, World.size_alloc] at h
    exact h.alloc _
  · have h := BoxM.new (((w.alloc (.cells #[yv] 27)).alloc (.cells #[xv] 27)).alloc (.cells #[qv] 3)) 0 0 (.slice none 0 0)
    rw [World.size_alloc, World.size_alloc, World.size_alloc] at h
    exact h
  · exact ((((Below.refl _ w).alloc (Nat.le_refl _) _).alloc (by simp) _).alloc (by simp; omega) _).alloc (by simp; omega) _
theorem outer_new (R C : Nat) (h1 : 1 ≤ R) (h2 : 1 ≤ C) (h3 : R * C ≤ 1048576) (hr : R ≤ 1048576) (hc : C ≤ 1048576) (w : World) :
    Calls Try.prog 18 #[.int .i64 R, .int .i64 C] w (ZeroMat R C w) := by
  refine (new_mat_any R C (by omega) (by omega) w).mono ?_
  intro e w' h
  unfold NewMat at h
  have hb : newB R C = true := by
    unfold newB
    simp only [Bool.and_eq_true, decide_eq_true_eq]
    refine ⟨by omega, by omega, ?_⟩
    have : (R : Int) * C = ((R * C : Nat) : Int) := by simp
    omega
  rw [hb] at h
  exact h
section
attribute [local go_sem] Oper.semAt_some
set_option maxRecDepth 100000 in
set_option maxHeartbeats 4000000 in
theorem outer_yes (v u : Value) (ys xs : List Int) (q : Int) (h1 : 1 ≤ ys.length) (h2 : 1 ≤ xs.length) (h3 : ys.length * xs.length ≤ 1048576) (hy : ∀ z ∈ ys, Word z) (hx : ∀ z ∈ xs, Word z) (w : World) (hv : IntsAt .i64 w.heap.size w v ys) (hu : IntsAt .i64 w.heap.size w u xs) :
    Calls Try.prog 27 #[v, u, .int .i64 q] w (Made ys.length xs.length (outL ys xs q) w) := by
  have r2 : ys.length ≤ 1048576 := Nat.le_trans (Nat.le_mul_of_pos_right _ h2) h3
  have c2 : xs.length ≤ 1048576 := Nat.le_trans (Nat.le_mul_of_pos_left _ h1) h3
  have hRCp : 0 < ys.length * xs.length := Nat.mul_pos h1 h2
  obtain ⟨ax, cx, rfl⟩ := ints_value hu
  rcases hv.form with ⟨_, e0⟩ | ⟨b, off, cy, rfl, hcap, hb, hcs⟩
  · rw [e0] at h1; cases h1
  have HN := Lib.hid (fun W => outer_new ys.length xs.length h1 h2 h3 r2 c2 W)
  obtain ⟨W0, hW0, by0, bx0, bq0, bz0, B0', hs0⟩ := four_boxes w (.slice (some ⟨b, off, none⟩) ys.length cy) (.slice ax xs.length cx) (.int .i64 q)
  have BY0 := Lib.hid by0
  have BX0 := Lib.hid bx0
  have BQ0 := Lib.hid bq0
  have BZ0 := Lib.hid bz0
  have B0 := Lib.hid B0'
  have HV := Lib.hid hv
  have HU := Lib.hid hu
  have HY := Lib.hid hy
  have HX := Lib.hid hx
  clear hv hu hy hx hcs by0 bx0 bq0 bz0 B0'
  refine (callsIn_wide (n := 8)).1 ?_
  refine callsIn_of_wp_marks Try.func27 rfl trivial ?_ rfl
  simp only [Try.ntmps27, List.size_toArray, List.length_cons, List.length_nil, Nat.reduceAdd, Nat.reduceSub, Array.replicate_succ, Array.replicate_zero, List.push_toArray, List.append_toArray, List.nil_append, List.cons_append]
  gi_upto_region 1 with fail
  try rw [hW0]
  have ky := Boxed.cell BY0.out
  have kx := Boxed.cell BX0.out
  clear hW0
  gi_wp2_with fail
  refine ⟨trivial, ?_⟩
  refine (callsIn_wide.2 (HN.out _)).mono ?_
  rintro e w2 ⟨t, rfl, ot, b2⟩
  obtain ⟨gt, ct, rfl, g1, g2⟩ := own_some ot hRCp
  have b3 := (Below.refl w2.heap.size w2).alloc (Nat.le_refl _) (.cells #[.int .i64 ys.length, .int .i64 xs.length, .slice (some ⟨gt, 0, none⟩) (ys.length * xs.length) ct] 29)
  have M3 := Lib.hid (BoxM.new w2 ys.length xs.length (.slice (some ⟨gt, 0, none⟩) (ys.length * xs.length) ct))
  have BY3 := Lib.hid (boxed_later (boxed_later BY0.out b2) b3)
  have BX3 := Lib.hid (boxed_later (boxed_later BX0.out b2) b3)
  have BQ3 := Lib.hid (boxed_later (boxed_later BQ0.out b2) b3)
  have BZ3 := Lib.hid ((BZ0.out.later b2).later b3)
  have hb2 := b2.size
  rw [hs0] at g1 hb2
  have B3 := Lib.hid (below_step (below_step B0.out b2) b3)
  have OT3 := Lib.hid (own_below (owns_mono B0.out.size ot) b3)
  have hs3 : (w2.alloc (.cells #[.int .i64 ys.length, .int .i64 xs.length, .slice (some ⟨gt, 0, none⟩) (ys.length * xs.length) ct] 29)).heap.size = w2.heap.size + 1 := by simp
  clear b2 b3 ot ky kx BY0 BX0 BQ0 BZ0 B0
  gi_upto_region 2 with fail
  generalize w2.alloc (.cells #[.int .i64 ys.length, .int .i64 xs.length, .slice (some ⟨gt, 0, none⟩) (ys.length * xs.length) ct] 29) = W3 at *
  generalize w2.heap.size = T at *
  have k0 := M3.out.cells.1
  have k1 := M3.out.cells.2.1
  have k2 := M3.out.cells.2.2
  gi_wp2_with fail
  refine ⟨trivial, ?_⟩
  refine (callsIn_wide.2 (rows_any ys.length xs.length (some ⟨gt, 0, none⟩) (ys.length * xs.length) ct _)).mono ?_
  rintro e W4 ⟨rfl, rfl⟩
  gi_wp2_with fail
  have m4 := BoxM.new W3 ys.length xs.length (.slice (some ⟨gt, 0, none⟩) (ys.length * xs.length) ct)
  rw [hs3] at m4
  have b4 := (Below.refl W3.heap.size W3).alloc (Nat.le_refl _) (.cells #[.int .i64 ys.length, .int .i64 xs.length, .slice (some ⟨gt, 0, none⟩) (ys.length * xs.length) ct] 29)
  have M4 := M3.out.later b4
  have BY4 := boxed_later BY3.out b4
  have BX4 := boxed_later BX3.out b4
  have BQ4 := boxed_later BQ3.out b4
  have BZ4 := BZ3.out.later b4
  have B4 := below_step B3.out b4
  have OT4 := own_below OT3.out b4
  have hs4 : (W3.alloc (.cells #[.int .i64 ys.length, .int .i64 xs.length, .slice (some ⟨gt, 0, none⟩) (ys.length * xs.length) ct] 29)).heap.size = T + 2 := by simp [hs3]
  generalize W3.alloc (.cells #[.int .i64 ys.length, .int .i64 xs.length, .slice (some ⟨gt, 0, none⟩) (ys.length * xs.length) ct] 29) = W4 at m4 M4 BY4 BX4 BQ4 BZ4 B4 OT4 hs4 ⊢
  clear b4 k0 k1 k2 M3 BY3 BX3 BQ3 BZ3 B3 OT3 hs3 HN
  have hct : ys.length * xs.length ≤ ct := by
    rcases OT4.2 with ⟨e0, _⟩ | ⟨g', cap'', cur, e0, _, _, hle, _⟩
    · cases e0
    · cases e0; exact hle
  refine wpIn_rangeFunc_ownH rfl (by omega) (gf := 41) (lb := #[.pointer (some ⟨T + 1, 0, none⟩)]) rfl trivial (enters_of Try.func41 (by kernel_rfl) rfl)
    (rows_stops 7 (by omega) (T + 1) w.heap.size ys.length xs.length (ys.length * xs.length) ct gt 0 h2 c2 r2 rfl h3 hct W4 (by omega) m4) KeepM.trans (keepM_b (by omega) (by omega)) (Below.refl _ _) (fun _ => rfl)
    (fun pre W => ((BoxM W T ys.length xs.length (.slice (some ⟨gt, 0, none⟩) (ys.length * xs.length) ct) ∧ BoxM W (w.heap.size + 1 + 1 + 1) 0 0 (.slice none 0 0)) ∧ (Boxed W w.heap.size 27 (.slice (some ⟨b, off, none⟩) ys.length cy) ∧ Boxed W (w.heap.size + 1) 27 (.slice ax xs.length cx)) ∧ Boxed W (w.heap.size + 1 + 1) 3 (.int .i64 q)) ∧ W.ownsRow w.heap.size 2 1 (.slice (some ⟨gt, 0, none⟩) (ys.length * xs.length) ct) (ys.length * xs.length) ((outP ys xs q pre).map (Value.int .i64)) ∧ Below w.heap.size w W)
    (fun _ _ _ => False)
    (OwnFrom.and (OwnFrom.and (OwnFrom.and (Own.from (boxM_own T ys.length xs.length (.slice (some ⟨gt, 0, none⟩) (ys.length * xs.length) ct)) _) (Own.from (boxM_own (w.heap.size + 1 + 1 + 1) 0 0 (.slice none 0 0)) _)) (OwnFrom.and (OwnFrom.and (Own.from (boxed_own w.heap.size 27 (fun _ => .slice (some ⟨b, off, none⟩) ys.length cy)) _) (Own.from (boxed_own (w.heap.size + 1) 27 (fun _ => .slice ax xs.length cx)) _)) (Own.from (boxed_own (w.heap.size + 1 + 1) 3 (fun _ => .int .i64 q)) _))) (OwnFrom.and (Own.from (row_own w.heap.size 2 1 (.slice (some ⟨gt, 0, none⟩) (ys.length * xs.length) ct) (fun _ => ys.length * xs.length) (fun pre => (outP (R := ys.length) ys xs q pre).map (Value.int .i64))) _) (ownFrom_below (Nat.le_refl _) (by omega))))
    (fun _ _ _ _ _ hs _ _ => hs)
    ⟨⟨⟨M4, BZ4⟩, ⟨BY4, BX4⟩, BQ4⟩, by rw [outP_nil, List.map_replicate]; exact OT4, B4⟩
    (fun x a'' W => a'' = { tmps := #[Value.slice (some { block := b, off := off }) ys.length cy, Value.slice ax xs.length cx,
          Value.int IntKind.i64 q, Value.pointer (some { block := w.heap.size, off := 0 }),
          Value.pointer (some { block := w.heap.size + 1, off := 0 }),
          Value.pointer (some { block := w.heap.size + 1 + 1, off := 0 }),
          Value.pointer (some { block := w.heap.size + 1 + 1 + 1, off := 0 }),
          Value.pointer (some { block := T, off := 0 }), .int .i64 x.val, .slice (some ⟨gt, x.val * xs.length, none⟩) xs.length xs.length,
          Value.slice (some { block := b, off := off }) ys.length cy, Value.int IntKind.i64 ↑ys.length,
          Value.slice ax xs.length cx, Value.int IntKind.i64 ↑xs.length,
          Value.agg #[Value.int IntKind.i64 ↑ys.length, Value.int IntKind.i64 ↑xs.length, Value.slice (some { block := gt, off := 0 }) (ys.length * xs.length) ct],
          Value.agg #[Value.int IntKind.i64 ↑ys.length, Value.int IntKind.i64 ↑xs.length, Value.slice (some { block := gt, off := 0 }) (ys.length * xs.length) ct],
          Value.func (Fn.func 41) #[] #[Value.pointer (some { block := T + 1, off := 0 })], .int .i64 x.val, .slice (some ⟨gt, x.val * xs.length, none⟩) xs.length xs.length, undef, undef,
          undef, undef, undef, undef, undef, undef, undef, undef], defers := [] })
    (fun x a'' _ X Y row hs hg hr => hs)
    ?assign ?body ?done ?stop
  case assign =>
    rintro l pre x W K hI hK
    unfold encM
    gi_wp2
    exact hK _ _ (KeepsFrom.refl _ _) ⟨Below.refl _ _, fun h => h⟩ hI rfl
  case body =>
    rintro l pre ⟨r, hrR⟩ a'' W hl ⟨rl, hrl⟩ ⟨⟨⟨hM, hZ⟩, ⟨hby, hbx⟩, hbq⟩, hrow, hB⟩ rfl hlt
    dsimp only
    have cy_ := Boxed.cell hby
    have cx_ := Boxed.cell hbx
    have cq_ := Boxed.cell hbq
    have ce := ints_cells (IntsAt.below hB HV.out) r hrR
    have hye := HY.out (ys[r]?.getD 0) (by rw [List.getElem?_eq_getElem hrR]; exact List.getElem_mem _)
    have hbl := World.block_lt_of_cell? _ _ ce
    have HPT := Lib.hid (outP_patch ys xs q pre ⟨r, hrR⟩)
    dsimp only at HPT
    have ri0 : (0 : Int) ≤ (r : Int) := by omega
    have ri1 : (r : Int) < (ys.length : Int) := by omega
    have hfit : r * xs.length + xs.length ≤ ys.length * xs.length := by
      have := Nat.mul_le_mul_right xs.length (show r + 1 ≤ ys.length by omega)
      rw [Nat.succ_mul] at this
      exact this
    have hxs8 : xs.length * 8 ≤ 140737488351232 := by omega
    have HI := Lib.hid (And.intro hM (And.intro hZ (And.intro hby (And.intro hbx hbq))))
    have HROW := Lib.hid hrow
    have HB := Lib.hid hB
    generalize ys[r]?.getD 0 = y at *
    clear hM hZ hby hbx hbq hrow hB hlt
    gi_wp2_with fail
    refine wpIn_region_heldR (S := fun w' => w'.cell? ⟨w.heap.size, 0, none⟩ = some (.slice (some ⟨b, off, none⟩) ys.length cy) ∧ w'.cell? ⟨w.heap.size + 1, 0, none⟩ = some (.slice ax xs.length cx) ∧ w'.cell? ⟨w.heap.size + 1 + 1, 0, none⟩ = some (.int .i64 q) ∧ w'.cell? ⟨b, off + r, none⟩ = some (.int .i64 y)) (by kernel_rfl) (by kernel_rfl) ?_ (fun hHeld => ?_)
    · exact ⟨cy_, cx_, cq_, ce⟩
    refine wpAnyH_take (i := 0) (v := ?v1) rfl (by kernel_rfl) (by kernel_rfl) (by kernel_rfl) (fun _ _ _ h => h) (Or.inl ⟨by rfl, ?hy1⟩) (by assumption) ?rest1
    case hy1 => (intro w hSw; (try dsimp only at hSw); go_simp; (first | done | with_reducible rfl))
    simp only [Act.put, List.setIfInBounds_toArray, List.set_cons_zero, List.set_cons_succ, List.getElem_toArray, List.getElem_cons_zero]
    refine wpAnyH_take (i := 1) (v := ?v2) rfl (by kernel_rfl) (by kernel_rfl) (by kernel_rfl) (fun _ _ _ h => h) (Or.inl ⟨by rfl, ?hy2⟩) (by assumption) ?rest2
    case hy2 => (intro w hSw; (try dsimp only at hSw); go_simp; (first | done | with_reducible rfl))
    simp only [Act.put, List.setIfInBounds_toArray, List.set_cons_zero, List.set_cons_succ, List.getElem_toArray, List.getElem_cons_zero, List.getElem_cons_succ]
    refine wpAnyH_take (i := 2) (v := ?v3) rfl (by kernel_rfl) (by kernel_rfl) (by kernel_rfl) (fun _ _ _ h => h) (Or.inl ⟨by rfl, ?hy3⟩) (by assumption) ?rest3
    case hy3 => (intro w hSw; (try dsimp only at hSw); go_simp; (first | done | with_reducible rfl))
    simp only [Act.put, List.setIfInBounds_toArray, List.set_cons_zero, List.set_cons_succ, List.getElem_toArray, List.getElem_cons_zero, List.getElem_cons_succ]
    refine wpAnyH_take (i := 3) (v := ?v4) rfl (by kernel_rfl) (by kernel_rfl) (by kernel_rfl) (fun _ _ _ h => h) (Or.inl ⟨by rfl, ?hy4⟩) (by assumption) ?rest4
    case hy4 => (intro w hSw; (try dsimp only at hSw); go_simp; (first | done | with_reducible rfl))
    simp only [Act.put, List.setIfInBounds_toArray, List.set_cons_zero, List.set_cons_succ, List.getElem_toArray, List.getElem_cons_zero, List.getElem_cons_succ]
    refine wpAnyH_take (i := 4) (v := ?v5) rfl (by kernel_rfl) (by kernel_rfl) (by kernel_rfl) (fun _ _ _ h => h) (Or.inl ⟨by rfl, ?hy5⟩) (by assumption) ?rest5
    case hy5 => (intro w hSw; (try dsimp only at hSw); go_simp; (first | done | with_reducible rfl))
    simp only [Act.put, List.setIfInBounds_toArray, List.set_cons_zero, List.set_cons_succ, List.getElem_toArray, List.getElem_cons_zero, List.getElem_cons_succ]
    refine wpAnyH_take (i := 5) (v := ?v6) rfl (by kernel_rfl) (by kernel_rfl) (by kernel_rfl) (fun _ _ _ h => h) (Or.inl ⟨by rfl, ?hy6⟩) (by assumption) ?rest6
    case hy6 => (intro w hSw; (try dsimp only at hSw); go_simp; (first | done | with_reducible rfl))
    simp only [Act.put, List.setIfInBounds_toArray, List.set_cons_zero, List.set_cons_succ, List.getElem_toArray, List.getElem_cons_zero, List.getElem_cons_succ]
    refine wpAnyH_take (i := 6) (v := ?v7) rfl (by kernel_rfl) (by kernel_rfl) (by kernel_rfl) (fun _ _ _ h => h) (Or.inl ⟨by rfl, ?hy7⟩) (by assumption) ?rest7
    case hy7 => (intro w hSw; (try dsimp only at hSw); go_simp; (first | done | with_reducible rfl))
    simp only [Act.put, List.setIfInBounds_toArray, List.set_cons_zero, List.set_cons_succ, List.getElem_toArray, List.getElem_cons_zero, List.getElem_cons_succ]
    refine wpAnyH_ready (rs := [7]) (by kernel_rfl) (by simp) ?_
    refine AllReadyH.cons rfl (fun K hK => ?_) AllReadyH.nil
    simp only [List.getElem_toArray, List.getElem_cons_zero, List.getElem_cons_succ]
    go_simp
    go_at_call 37
    obtain ⟨h_0, h_1, h_2, h_3⟩ := hHeld
    have BD := Lib.hid HB.out.drew
    have RD := Lib.hid (own_below HROW.out (Below.refl _ _).drew)
    refine (scale_any _ xs y q hye HX.out hxs8 W.drew ((HU.out.below BD.out).grow BD.out.size)).mono ?_
    rintro e w5 ⟨sv, rfl, os, b5⟩
    obtain ⟨as_, cs_, rfl⟩ := own_value os
    have G5 := Lib.hid (grown_trans (grown_below (Below.refl W.heap.size W).drew (some gt)) (grown_below b5 _))
    have k0 := cell_step b5 h_0
    have k1 := cell_step b5 h_1
    have k2 := cell_step b5 h_2
    have k3 := cell_step b5 h_3
    have R5 := Lib.hid (own_below RD.out b5)
    have hsl : (scaleL xs y q).length = xs.length := by simp [scaleL]
    have hsz : (Try.prog.info? 2).map (·.size) = some 1 := by kernel_rfl
    obtain ⟨w6, hrun6, ho6, hg6⟩ := run_copy_part (P := Try.prog) w5 27 27 3 2 Try.underlying27 hsz (some ⟨gt, r * xs.length, none⟩) as_ xs.length xs.length cs_ (off := r * xs.length) R5.out ((scaleL xs y q).map (Value.int .i64)) (by rw [List.length_map, hsl]) (fun h0 => ⟨gt, ct, rfl, rfl, own_src os h0⟩) (by omega) (by intro v hv; obtain ⟨z, _, rfl⟩ := List.mem_map.1 hv; rfl)
    rw [splice_map, HPT.out] at ho6
    have O6 := Lib.hid ho6
    have G6 := Lib.hid (show w5.grownBy w6 (some gt) from hg6)
    have GW := Lib.hid (grown_trans G5.out G6.out)
    have HRUN := Lib.hid hrun6
    clear b5 h_0 h_1 h_2 h_3 os hsl hsz ho6 hg6 hrun6
    go_wp2_with fail
    refine hK.out _ _ ⟨k0, k1, k2, k3⟩ (fun hHeld => ?_)
    clear hK K
    try simp only [Act.put, List.setIfInBounds_toArray, List.set_cons_zero, List.set_cons_succ, List.getElem_toArray, List.getElem_cons_zero, List.getElem_cons_succ]
    have hrun6 := HRUN.out
    refine wpAnyH_ready (rs := [8]) (by kernel_rfl) (by simp) ?_
    refine AllReadyH.cons rfl (fun K hK => ?_) AllReadyH.nil
    simp only [List.getElem_toArray, List.getElem_cons_zero, List.getElem_cons_succ]
    go_simp
    have l0 := World.block_lt_of_cell? _ _ k0
    have l1 := World.block_lt_of_cell? _ _ k1
    have l2 := World.block_lt_of_cell? _ _ k2
    have l3 := World.block_lt_of_cell? _ _ k3
    refine hK.out _ _ ⟨(grown_cell G6.out l0 (show w.heap.size ≠ gt by omega)).trans k0, (grown_cell G6.out l1 (show w.heap.size + 1 ≠ gt by omega)).trans k1, (grown_cell G6.out l2 (show w.heap.size + 1 + 1 ≠ gt by omega)).trans k2, (grown_cell G6.out l3 (show b ≠ gt by omega)).trans k3⟩ (fun hHeld => ?_)
    clear hK K hrun6
    try simp only [Act.put, List.setIfInBounds_toArray, List.set_cons_zero, List.set_cons_succ, List.getElem_toArray, List.getElem_cons_zero, List.getElem_cons_succ]
    refine wpAnyH_done (by kernel_rfl) ?_ _
    refine ⟨rfl, ?_⟩
    have hcur : ∀ (j : Nat) (o : Obj), some gt = some j → W.heap[j]? = some o → o.isCells = true := by
      rintro j o e ho
      cases e
      rcases HROW.out.2 with ⟨e0, _⟩ | ⟨g', cap'', cur, e0, _, hgb, _⟩
      · cases e0
      · cases e0
        rw [hgb] at ho
        cases ho
        rfl
    have BW := (Below.refl w.heap.size W).grown GW.out HB.out.size (fun k e => by cases e; omega)
    obtain ⟨hM, hZ, hby, hbx, hbq⟩ := HI.out
    exact ⟨(KeepsOthers.of_grownBy GW.out hcur).from _, ⟨BW, fun hb => hb.grown GW.out (fun e => absurd (Option.some.inj e) (by omega))⟩, ⟨⟨hM.grown GW.out (fun e => absurd (Option.some.inj e) (by omega)), hZ.grown GW.out (fun e => absurd (Option.some.inj e) (by omega))⟩, ⟨hby.kept GW.out (fun e => absurd (Option.some.inj e) (by omega)), hbx.kept GW.out (fun e => absurd (Option.some.inj e) (by omega))⟩, hbq.kept GW.out (fun e => absurd (Option.some.inj e) (by omega))⟩, O6.out, HB.out.trans BW⟩
  case done =>
    rintro D ls W hD rfl ⟨⟨⟨hM, hZ⟩, _, _⟩, hrow, hB⟩ hK
    have ST := Lib.hid (stored3 hZ.cell3 (.int .i64 ys.length) (.int .i64 xs.length) (.slice (some ⟨gt, 0, none⟩) (ys.length * xs.length) ct))
    obtain ⟨⟨x, c0⟩, ⟨y, c1⟩, ⟨z, c2⟩, f0, f1, f2⟩ := hZ.cell3
    obtain ⟨t0, t1, t2⟩ := hM.cells
    have HROW := Lib.hid hrow
    have HB := Lib.hid hB
    have hZl := hZ.lt
    clear hM hZ hrow hB
    gi_wp2
    have hK1 := (KeepsOthers.setCell W ⟨w.heap.size + 1 + 1 + 1, 0, none⟩ (.int .i64 ys.length)).same D _ hK rfl
    have hK2 := (KeepsOthers.setCell _ ⟨w.heap.size + 1 + 1 + 1, 1, none⟩ (.int .i64 xs.length)).same D _ hK1 rfl
    have hK3 := (KeepsOthers.setCell _ ⟨w.heap.size + 1 + 1 + 1, 2, none⟩ (.slice (some ⟨gt, 0, none⟩) (ys.length * xs.length) ct)).same D _ hK2 rfl
    refine ⟨by simp, .inl ⟨_, _, rfl, run_takeDeferred hK3, ?_⟩⟩
    have D0 := ST.out.1
    have D1 := ST.out.2.1
    have D2 := ST.out.2.2.1
    have WZ := ownsRow_setCell_other (ownsRow_setCell_other (ownsRow_setCell_other HROW.out (a := ⟨w.heap.size + 1 + 1 + 1, 0, none⟩) (fun e => absurd (Option.some.inj e) (show gt ≠ w.heap.size + 1 + 1 + 1 by omega)) (.int .i64 ys.length)) (a := ⟨w.heap.size + 1 + 1 + 1, 1, none⟩) (fun e => absurd (Option.some.inj e) (show gt ≠ w.heap.size + 1 + 1 + 1 by omega)) (.int .i64 xs.length)) (a := ⟨w.heap.size + 1 + 1 + 1, 2, none⟩) (fun e => absurd (Option.some.inj e) (show gt ≠ w.heap.size + 1 + 1 + 1 by omega)) (.slice (some ⟨gt, 0, none⟩) (ys.length * xs.length) ct)
    have LZ := HB.out.trans (ST.out.2.2.2.mono (by omega))
    have hlz := World.block_lt_of_cell? _ _ D0
    generalize ((W.setCell ⟨w.heap.size + 1 + 1 + 1, 0, none⟩ (.int .i64 ys.length)).setCell ⟨w.heap.size + 1 + 1 + 1, 1, none⟩ (.int .i64 xs.length)).setCell ⟨w.heap.size + 1 + 1 + 1, 2, none⟩ (.slice (some ⟨gt, 0, none⟩) (ys.length * xs.length) ct) = wz at *
    have GP := grownBy_putObj' wz D (Obj.deferred none)
    have E0 := (grown_cell GP hlz (show w.heap.size + 1 + 1 + 1 ≠ D by omega)).trans D0
    have E1 := (grown_cell GP hlz (show w.heap.size + 1 + 1 + 1 ≠ D by omega)).trans D1
    have E2 := (grown_cell GP hlz (show w.heap.size + 1 + 1 + 1 ≠ D by omega)).trans D2
    refine ⟨.agg #[.int .i64 ys.length, .int .i64 xs.length, .slice (some ⟨gt, 0, none⟩) (ys.length * xs.length) ct], by simp [results, Try.results27, E0, E1, E2, go_sem], ⟨_, rfl, .inr ?_, LZ.trans (belowK_b (w := W4) (by omega) wz D _ _ (by omega) hK3 rfl rfl)⟩⟩
    have := ownsRow_putObj WZ (Obj.deferred none) hK3 rfl
    rw [outP_all] at this
    exact IntsAt.of_owns (outL_length ys xs q).symm this
  case stop =>
    rintro D c pre W _ _ h _
    exact h.elim
end
end Go.Proofs.Ytinflmjombcolaa
