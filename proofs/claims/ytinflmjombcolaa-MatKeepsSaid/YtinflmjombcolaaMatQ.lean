/- Layer 7: Back. -/
import Derived.Test.YtinflmjombcolaaMatK
import Derived.Test.YtinflmjombcolaaMatP
namespace Go.Proofs.Ytinflmjombcolaa
open Go.RowKit Go.Shelf
set_option linter.unusedVariables false
def backB (r c : Int) (n k : Nat) : Bool := rightB r c n && decide ((k : Int) = r)
theorem add_len (n : Nat) (v u : Value) (ps ss : List Int) (hp : ps.length = n) (hs : ss.length = n) (hm : n * 8 ≤ 140737488351232) (base n₀ : Nat) (w : World) (hb : base ≤ w.heap.size) (ho : w.ownsRow base 2 1 v n (ps.map (Value.int .i64))) (h0 : n₀ ≤ w.heap.size) (hu : IntsW .i64 n₀ w u ss) :
    Calls Try.prog 36 #[v, u] w fun e w' => e = .returned (.bool true) ∧ w'.ownsRow base 2 1 v n ((addL ps ss).map (Value.int .i64)) ∧ w.grownBy w' v.ownBlock := by
  subst hp
  refine (add_any v u ps ss hm (by omega) base n₀ w hb ho h0 hu).mono ?_
  intro e w' h
  unfold AddedTo at h
  rw [if_pos hs.symm] at h
  exact h
set_option maxHeartbeats 1000000 in
theorem back_no (r c : Int) (a a' : Option Addr) (n cap k cap' : Nat) (q : Int) (h : backB r c n k = false) (w : World) :
    Calls Try.prog 21 #[.agg #[.int .i64 r, .int .i64 c, .slice a n cap], .slice a' k cap', .int .i64 q] w fun e w' => e = .returned (.tuple #[.slice none 0 0, .bool false]) ∧ Below w.heap.size w w' := by
  have AL1 := (Below.refl w.heap.size w).alloc (Nat.le_refl _) (.cells #[.int .i64 r, .int .i64 c, .slice a n cap] 29)
  have AL2 := below_alloc (o := .cells #[.slice a' k cap'] 27) AL1
  have AL3 := Lib.hid (below_alloc (o := .cells #[.int .i64 q] 3) AL2)
  have HR := Lib.hid (fun W => mright_any r c a n cap W)
  have al2 := (Below.refl (w.alloc (.cells #[.int .i64 r, .int .i64 c, .slice a n cap] 29)).heap.size (w.alloc (.cells #[.int .i64 r, .int .i64 c, .slice a n cap] 29))).alloc (Nat.le_refl _) (.cells #[.slice a' k cap'] 27)
  have al3 := (Below.refl ((w.alloc (.cells #[.int .i64 r, .int .i64 c, .slice a n cap] 29)).alloc (.cells #[.slice a' k cap'] 27)).heap.size ((w.alloc (.cells #[.int .i64 r, .int .i64 c, .slice a n cap] 29)).alloc (.cells #[.slice a' k cap'] 27))).alloc (Nat.le_refl _) (.cells #[.int .i64 q] 3)
  have c0 := cell_step al3 (cell_step al2 ((cell_new w #[.int .i64 r, .int .i64 c, .slice a n cap] 29 0).trans rfl))
  have c1 := cell_step al3 (cell_step al2 ((cell_new w #[.int .i64 r, .int .i64 c, .slice a n cap] 29 1).trans rfl))
  have c2 := cell_step al3 (cell_step al2 ((cell_new w #[.int .i64 r, .int .i64 c, .slice a n cap] 29 2).trans rfl))
  have x0 := cell_step al3 ((cell_new (w.alloc (.cells #[.int .i64 r, .int .i64 c, .slice a n cap] 29)) #[.slice a' k cap'] 27 0).trans rfl)
  have hs : (w.alloc (.cells #[.int .i64 r, .int .i64 c, .slice a n cap] 29)).heap.size = w.heap.size + 1 := by simp
  rw [hs] at x0
  have HC := Lib.hid (And.intro c1 (And.intro x0 (And.intro c0 c2)))
  clear AL1 AL2 al2 al3 c0 c1 c2 x0 hs
  cases hr : rightB r c n
  · rw [hr] at HR
    clear hr h
    go_enter Try.func21, Try.ntmps21
    go_upto_region 1 with fail
    generalize (((w.alloc (.cells #[.int .i64 r, .int .i64 c, .slice a n cap] 29)).alloc (.cells #[.slice a' k cap'] 27)).alloc (.cells #[.int .i64 q] 3)) = W3 at *
    have k0 := HC.out.2.2.1
    have k1 := HC.out.1
    have k2 := HC.out.2.2.2
    go_wp2_with fail
    refine (HR.out _).mono ?_
    rintro e w1 ⟨rfl, b1⟩
    have B1 := Lib.hid (below_step AL3.out b1)
    clear b1
    go_wp2_with fail
    go_ret2
    exact ⟨rfl, B1.out⟩
  · have hne : ¬ (k : Int) = r := by
      unfold backB at h
      rw [hr] at h
      simpa using h
    have g : ((k : Int) != r) = true := by simpa using hne
    rw [hr] at HR
    clear hr h hne
    go_enter Try.func21, Try.ntmps21
    go_upto_region 1 with fail
    generalize (((w.alloc (.cells #[.int .i64 r, .int .i64 c, .slice a n cap] 29)).alloc (.cells #[.slice a' k cap'] 27)).alloc (.cells #[.int .i64 q] 3)) = W3 at *
    have k0 := HC.out.2.2.1
    have k1 := HC.out.1
    have k2 := HC.out.2.2.2
    go_wp2_with fail
    refine (HR.out _).mono ?_
    rintro e w1 ⟨rfl, b1⟩
    have B1 := Lib.hid (below_step AL3.out b1)
    have d1 := cell_step b1 HC.out.2.2.1
    have d2 := cell_step b1 HC.out.2.1
    clear b1
    go_wp2_with fail
    go_ret2
    exact ⟨rfl, B1.out⟩
section
attribute [local go_sem] Oper.semAt_some
set_option maxRecDepth 100000 in
set_option maxHeartbeats 2000000 in
theorem back_yes (R C : Nat) (v u : Value) (zs xs : List Int) (q : Int) (h : backB R C zs.length xs.length = true) (hz : ∀ z ∈ zs, Word z) (hx : ∀ z ∈ xs, Word z) (hm : zs.length ≤ 1048576) (w : World) (hv0 : IntsW .i64 w.heap.size w v zs) (hu : IntsAt .i64 w.heap.size w u xs) :
    Calls Try.prog 21 #[.agg #[.int .i64 R, .int .i64 C, v], u, .int .i64 q] w (NewInts (backL R C zs xs q) w) := by
  obtain ⟨a', cap', rfl⟩ := ints_value hu
  have hr : rightB R C zs.length = true := by unfold backB at h; simp only [Bool.and_eq_true] at h; exact h.1
  have hxc : xs.length = R := by unfold backB at h; simp only [Bool.and_eq_true, decide_eq_true_eq] at h; omega
  obtain ⟨r1, r2, c1, c2, hlen⟩ := right_some hr
  have hlen' : zs.length = R * C := by
    have : (zs.length : Int) = ((R * C : Nat) : Int) := by rw [hlen]; simp
    omega
  have hpos : 0 < zs.length := by rw [hlen']; exact Nat.mul_pos (by omega) (by omega)
  have hv := hv0.at hpos
  clear hv0
  rcases hv.form with ⟨_, e0⟩ | ⟨b, off, cap, rfl, hcap, hb, hcs⟩
  · rw [e0] at hpos; cases hpos
  subst hxc
  have HR := Lib.hid (fun W => mright_any xs.length C (some ⟨b, off, none⟩) zs.length cap W)
  rw [hr] at HR
  obtain ⟨W3, hW3, bm, bx, bq, b3, hs3⟩ := three_boxes w xs.length C (.slice (some ⟨b, off, none⟩) zs.length cap) (.slice a' xs.length cap') (.int .i64 q)
  have hmk := run_make_elem elemVec .i64 .i64 C (by omega) (by omega)
  have g1 : ((xs.length : Int) != (xs.length : Int)) = false := by simp
  have HL := Lib.hid hlen'
  have HV := Lib.hid hv
  have HU := Lib.hid hu
  clear hlen' hlen hcs h hr hv hu
  refine (callsIn_wide (n := 8)).1 ?_
  refine callsIn_of_wp_marks Try.func21 rfl trivial ?_ rfl
  simp only [Try.ntmps21, List.size_toArray, List.length_cons, List.length_nil, Nat.reduceAdd, Nat.reduceSub, Array.replicate_succ, Array.replicate_zero, List.push_toArray, List.append_toArray, List.nil_append, List.cons_append]
  gi_upto_region 1 with fail
  try rw [hW3]
  have k0 := bm.cells.1
  have k1 := bm.cells.2.1
  have k2 := bm.cells.2.2
  have kx := bx.cell
  have B3 := Lib.hid b3
  have BM := Lib.hid bm
  have BX := Lib.hid bx
  have BQ := Lib.hid bq
  have HW3 := Lib.hid hW3
  clear b3 bm bx bq hW3
  gi_wp2_with fail
  refine ⟨trivial, ?_⟩
  refine (callsIn_wide.2 (HR.out _)).mono ?_
  rintro e w1 ⟨rfl, b1⟩
  have BM1 := Lib.hid (BM.out.later b1)
  have BX1 := Lib.hid (boxed_later BX.out b1)
  have BQ1 := Lib.hid (boxed_later BQ.out b1)
  have B1 := Lib.hid (below_step B3.out b1)
  have hsz := b1.size
  rw [hs3] at hsz
  have d0 := BM1.out.cells.1
  have d1 := BM1.out.cells.2.1
  have d2 := BM1.out.cells.2.2
  have dx := Boxed.cell BX1.out
  clear b1 k0 k1 k2 kx
  obtain ⟨W4, hW4, b4, bp, ow, hs4⟩ := made_two w1 C w.heap.size B1.out.size (by omega)
  gi_upto_region 4 with fail
  try rw [hW4]
  have BM4 := Lib.hid (BM1.out.later b4)
  have BX4 := Lib.hid (boxed_later BX1.out b4)
  have BQ4 := Lib.hid (boxed_later BQ1.out b4)
  have B4 := Lib.hid (below_step B1.out b4)
  have BP4 := Lib.hid bp
  have OW4 := Lib.hid ow
  clear b4 bp ow hW4 d0 d1 d2 dx
  have d0 := BM4.out.cells.1
  have d1 := BM4.out.cells.2.1
  have d2 := BM4.out.cells.2.2
  generalize w1.heap.size = g at *
  gi_wp2_with fail
  refine ⟨trivial, ?_⟩
  refine (callsIn_wide.2 (rows_any xs.length C (some ⟨b, off, none⟩) zs.length cap _)).mono ?_
  rintro e W5 ⟨rfl, rfl⟩
  gi_wp2_with fail
  have bm5 := BoxM.new W4 xs.length C (.slice (some ⟨b, off, none⟩) zs.length cap)
  rw [hs4] at bm5
  have b5 := (Below.refl W4.heap.size W4).alloc (Nat.le_refl _) (.cells #[.int .i64 xs.length, .int .i64 C, .slice (some ⟨b, off, none⟩) zs.length cap] 29)
  have BX5 := boxed_later BX4.out b5
  have BQ5 := boxed_later BQ4.out b5
  have BP5 := boxed_later BP4.out b5
  have B5 := below_step B4.out b5
  have OW5 := own_below OW4.out b5
  have hs5 : (W4.alloc (.cells #[.int .i64 xs.length, .int .i64 C, .slice (some ⟨b, off, none⟩) zs.length cap] 29)).heap.size = g + 3 := by simp [hs4]
  generalize W4.alloc (.cells #[.int .i64 xs.length, .int .i64 C, .slice (some ⟨b, off, none⟩) zs.length cap] 29) = W5 at bm5 BX5 BQ5 BP5 B5 OW5 hs5 ⊢
  clear b5 d0 d1 d2 BM4 BX4 BQ4 BP4 B4 OW4 hs4 BM1 BX1 BQ1 B1 BM BX BQ B3
  refine wpIn_rangeFunc_ownH rfl (by omega) (gf := 41) (lb := #[.pointer (some ⟨g + 2, 0, none⟩)]) rfl trivial (enters_of Try.func41 (by kernel_rfl) rfl)
    (rows_stops 7 (by omega) (g + 2) w.heap.size xs.length C zs.length cap b off (by omega) (by omega) (by omega) HL.out hm hcap W5 (by omega) bm5) KeepM.trans (keepM_b (by omega) (by omega)) (Below.refl _ _) (fun _ => rfl)
    (fun pre W => (∃ u, Boxed W (g + 1) 27 u ∧ W.ownsRow w.heap.size 2 1 u C ((backP C zs xs q pre).map (Value.int .i64)) ∧ IsV (.slice (some ⟨g, 0, none⟩) C C) pre u) ∧ (Boxed W (w.heap.size + 1) 27 (.slice a' xs.length cap') ∧ Boxed W (w.heap.size + 1 + 1) 3 (.int .i64 q)) ∧ Below w.heap.size w W)
    (fun _ _ _ => False)
    (OwnFrom.and (Own.from (holdsRow_own w.heap.size (g + 1) 27 2 1 (fun _ => C) (fun pre => (backP (R := xs.length) C zs xs q pre).map (Value.int .i64)) (IsV (.slice (some ⟨g, 0, none⟩) C C))) _) (OwnFrom.and (OwnFrom.and (Own.from (boxed_own (w.heap.size + 1) 27 (fun _ => .slice a' xs.length cap')) _) (Own.from (boxed_own (w.heap.size + 1 + 1) 3 (fun _ => .int .i64 q)) _)) (ownFrom_below (Nat.le_refl _) (by omega))))
    (fun _ _ _ _ _ hs _ _ => hs)
    ⟨⟨_, BP5, by rw [backP_nil, List.map_replicate]; exact OW5, rfl⟩, ⟨BX5, BQ5⟩, B5⟩
    (fun x a'' W => a'' = { tmps := #[Value.agg #[Value.int IntKind.i64 ↑xs.length, Value.int IntKind.i64 ↑C, Value.slice (some { block := b, off := off }) zs.length cap], Value.slice a' xs.length cap', Value.int IntKind.i64 q, Value.pointer (some { block := w.heap.size, off := 0 }), Value.pointer (some { block := w.heap.size + 1, off := 0 }), Value.pointer (some { block := w.heap.size + 1 + 1, off := 0 }), Value.slice none 0 0, Value.bool false, Value.pointer (some { block := g + 1, off := 0 }), .int .i64 x.val, .slice (some ⟨b, off + x.val * C, none⟩) C C, Value.agg #[Value.int IntKind.i64 ↑xs.length, Value.int IntKind.i64 ↑C, Value.slice (some { block := b, off := off }) zs.length cap], Value.bool true, Value.bool false, Value.bool false, Value.slice a' xs.length cap', Value.int IntKind.i64 ↑xs.length, Value.pointer (some { block := w.heap.size, off := 0 }), Value.int IntKind.i64 ↑xs.length, Value.bool false, Value.bool false, Value.pointer (some { block := w.heap.size, off := 1 }), Value.int IntKind.i64 ↑C, Value.slice (some { block := g, off := 0 }) C C, Value.agg #[Value.int IntKind.i64 ↑xs.length, Value.int IntKind.i64 ↑C, Value.slice (some { block := b, off := off }) zs.length cap], Value.func (Fn.func 41) #[] #[Value.pointer (some { block := g + 2, off := 0 })], .int .i64 x.val, .slice (some ⟨b, off + x.val * C, none⟩) C C, undef, undef, undef, undef, undef, undef, undef, undef, undef, undef], defers := [] })
    (fun x a'' _ X Y row hs hg hr => hs)
    ?assign ?body ?done ?stop
  case assign =>
    rintro l pre x W K hI hK
    unfold encM
    gi_wp2
    exact hK _ _ (KeepsFrom.refl _ _) ⟨Below.refl _ _, fun h => h⟩ hI rfl
  case body =>
    rintro l pre ⟨r, hrR⟩ a'' W hl ⟨rl, hrl⟩ ⟨⟨u, hu, hrow, hu2⟩, ⟨hbx, hbq⟩, hB⟩ rfl hlt
    have hu3 : u = .slice (some ⟨g, 0, none⟩) C C := hu2
    subst hu3
    dsimp only
    have cp := Boxed.cell hu
    have cx := Boxed.cell hbx
    have cq := Boxed.cell hbq
    have hrl := rowL_length HL.out hrR
    have HW := Lib.hid (fun z (hz' : z ∈ rowL zs C r) => hz z (rowL_mem hz'))
    have HB := Lib.hid hB
    have HROW := Lib.hid hrow
    have hBU := Lib.hid hu
    have hBX := Lib.hid hbx
    have hBQ := Lib.hid hbq
    have hrl8 : (rowL zs C r).length * 8 ≤ 140737488351232 := by omega
    have ri0 : (0 : Int) ≤ (r : Int) := by omega
    have ri1 : (r : Int) < (xs.length : Int) := by omega
    rcases HU.out.form with ⟨_, e0⟩ | ⟨b', off', c', e0, hcap', hg', hcs'⟩
    · rw [e0] at hrR; cases hrR
    cases e0
    have cy := (hB.cell (p := ⟨b', off' + r, none⟩) hg').trans (hcs' r hrR)
    have hy := hx (xs[r]?.getD 0) (by rw [List.getElem?_eq_getElem hrR]; exact List.getElem_mem _)
    have hbl := World.block_lt_of_cell? _ _ cy
    have HRL := Lib.hid hrl
    have HSN := Lib.hid (backP_snoc C zs xs q HL.out pre ⟨r, hrR⟩)
    have hpl := Lib.hid (backP_length C zs xs q pre)
    generalize hyv : xs[r]?.getD 0 = y at *
    dsimp only at HSN
    generalize backP C zs xs q pre = ps at *
    clear hrl hu hbx hbq hB hrow hlt hu2 hcs' hyv
    gi_wp2_with fail
    refine wpIn_region_heldR (S := fun w' => w'.cell? ⟨g + 1, 0, none⟩ = some (.slice (some ⟨g, 0, none⟩) C C) ∧ w'.cell? ⟨w.heap.size + 1, 0, none⟩ = some (.slice (some ⟨b', off', none⟩) xs.length cap') ∧ w'.cell? ⟨w.heap.size + 1 + 1, 0, none⟩ = some (.int .i64 q) ∧ w'.cell? ⟨b', off' + r, none⟩ = some (.int .i64 y)) (by kernel_rfl) (by kernel_rfl) ?_ (fun hHeld => ?_)
    · exact ⟨cp, cx, cq, cy⟩
    refine wpAnyH_take (i := 0) (v := ?v1) rfl (by kernel_rfl) (by kernel_rfl) (by kernel_rfl) (fun _ _ _ h => h) (Or.inl ⟨by rfl, ?hy1⟩) (by assumption) ?rest1
    case hy1 => (intro w hSw; (try dsimp only at hSw); go_simp; (first | done | with_reducible rfl))
    simp only [Act.put, List.setIfInBounds_toArray, List.set_cons_zero, List.set_cons_succ, List.getElem_toArray, List.getElem_cons_zero]
    refine wpAnyH_take (i := 1) (v := ?v2) rfl (by kernel_rfl) (by kernel_rfl) (by kernel_rfl) (fun _ _ _ h => h) (Or.inl ⟨by rfl, ?hy2⟩) (by assumption) ?rest2
    case hy2 => (intro w hSw; (try dsimp only at hSw); go_simp; (first | done | with_reducible rfl))
    simp only [Act.put, List.setIfInBounds_toArray, List.set_cons_zero, List.set_cons_succ, List.getElem_toArray, List.getElem_cons_zero, List.getElem_cons_succ]
    refine wpAnyH_take (i := 2) (v := ?v3) rfl (by kernel_rfl) (by kernel_rfl) (by kernel_rfl) (fun _ _ _ h => h) (Or.inl ⟨by rfl, ?hy3⟩) (by assumption) ?rest3
    case hy3 => (intro w hSw; (try dsimp only at hSw); go_simp; (first | done | with_reducible rfl))
    simp only [Act.put, List.setIfInBounds_toArray, List.set_cons_zero, List.set_cons_succ, List.getElem_toArray, List.getElem_cons_zero, List.getElem_cons_succ]
    refine wpAnyH_take (i := 3) (v := ?v4) rfl (by kernel_rfl) (by kernel_rfl) (by kernel_rfl) (fun _ _ _ h => h) (Or.inl ⟨by rfl, ?hy4⟩) (by assumption) ?rest4
    case hy4 => (intro w hSw; (try dsimp only at hSw); go_simp; (first | done | with_reducible rfl))
    simp only [Act.put, List.setIfInBounds_toArray, List.set_cons_zero, List.set_cons_succ, List.getElem_toArray, List.getElem_cons_zero, List.getElem_cons_succ]
    refine wpAnyH_take (i := 4) (v := ?v5) rfl (by kernel_rfl) (by kernel_rfl) (by kernel_rfl) (fun _ _ _ h => h) (Or.inl ⟨by rfl, ?hy5⟩) (by assumption) ?rest5
    case hy5 => (intro w hSw; (try dsimp only at hSw); go_simp; (first | done | with_reducible rfl))
    simp only [Act.put, List.setIfInBounds_toArray, List.set_cons_zero, List.set_cons_succ, List.getElem_toArray, List.getElem_cons_zero, List.getElem_cons_succ]
    refine wpAnyH_take (i := 5) (v := ?v6) rfl (by kernel_rfl) (by kernel_rfl) (by kernel_rfl) (fun _ _ _ h => h) (Or.inl ⟨by rfl, ?hy6⟩) (by assumption) ?rest6
    case hy6 => (intro w hSw; (try dsimp only at hSw); go_simp; (first | done | with_reducible rfl))
    simp only [Act.put, List.setIfInBounds_toArray, List.set_cons_zero, List.set_cons_succ, List.getElem_toArray, List.getElem_cons_zero, List.getElem_cons_succ]
    refine wpAnyH_take (i := 6) (v := ?v7) rfl (by kernel_rfl) (by kernel_rfl) (by kernel_rfl) (fun _ _ _ h => h) (Or.inl ⟨by rfl, ?hy7⟩) (by assumption) ?rest7
    case hy7 => (intro w hSw; (try dsimp only at hSw); go_simp; (first | done | with_reducible rfl))
    simp only [Act.put, List.setIfInBounds_toArray, List.set_cons_zero, List.set_cons_succ, List.getElem_toArray, List.getElem_cons_zero, List.getElem_cons_succ]
    refine wpAnyH_ready (rs := [7]) (by kernel_rfl) (by simp) ?_
    refine AllReadyH.cons rfl (fun K hK => ?_) AllReadyH.nil
    simp only [List.getElem_toArray, List.getElem_cons_zero, List.getElem_cons_succ]
    go_simp
    go_at_call 37
    obtain ⟨h_0, h_1, h_2, h_3⟩ := hHeld
    have BD := Lib.hid HB.out.drew
    have RD := Lib.hid (own_below HROW.out (Below.refl _ _).drew)
    have hsc := scale_any _ (rowL zs C r) y q hy HW.out hrl8 W.drew (rowAt ((HV.out.below BD.out).grow BD.out.size) HL.out hrR)
    rw [HRL.out] at hsc
    refine hsc.mono ?_
    clear hsc
    rintro e w5 ⟨sv, rfl, os, b5⟩
    obtain ⟨as_, cs_, rfl⟩ := own_value os
    have OS := Lib.hid os
    have G5 := Lib.hid (grown_trans (grown_below (Below.refl W.heap.size W).drew (some g)) (grown_below b5 _))
    have k0 := cell_step b5 h_0
    have k1 := cell_step b5 h_1
    have k2 := cell_step b5 h_2
    have k3 := cell_step b5 h_3
    have R5 := Lib.hid (own_below RD.out b5)
    have B5 := Lib.hid (BD.out.trans (b5.mono BD.out.size))
    have hsl : Hid ((scaleL (rowL zs C r) y q).length = C) := Lib.hid (by unfold scaleL; rw [List.length_map, HRL.out])
    generalize scaleL (rowL zs C r) y q = ss at *
    clear b5 h_0 h_1 h_2 h_3 os
    go_wp2_with fail
    refine hK.out _ _ ⟨k0, k1, k2, k3⟩ (fun hHeld => ?_)
    clear hK K
    try simp only [Act.put, List.setIfInBounds_toArray, List.set_cons_zero, List.set_cons_succ, List.getElem_toArray, List.getElem_cons_zero, List.getElem_cons_succ]
    refine wpAnyH_ready (rs := [8]) (by kernel_rfl) (by simp) ?_
    refine AllReadyH.cons rfl (fun K hK => ?_) AllReadyH.nil
    simp only [List.getElem_toArray, List.getElem_cons_zero, List.getElem_cons_succ]
    go_simp
    go_at_call 36
    have o1 := R5.out
    have o2 := IntsAt.of_owns (q := .i64) hsl.out.symm OS.out
    have HADD := Lib.hid (add_len C (.slice (some ⟨g, 0, none⟩) C C) (.slice as_ C cs_) ps ss hpl.out hsl.out (by omega) w.heap.size w5.heap.size w5 B5.out.size o1 (Nat.le_refl _) (.inr o2))
    refine HADD.out.mono ?_
    rintro e w6 ⟨rfl, o6, g6⟩
    have hlg := World.block_lt_of_cell? _ _ k0
    have hlx := World.block_lt_of_cell? _ _ k1
    have hlq := World.block_lt_of_cell? _ _ k2
    have hly := World.block_lt_of_cell? _ _ k3
    have O6 := Lib.hid o6
    have G6 := Lib.hid (show w5.grownBy w6 (some g) from g6)
    have GW := Lib.hid (grown_trans G5.out G6.out)
    clear o6 g6 o1 o2
    go_wp2_with fail
    refine hK.out _ _ ⟨(grown_cell G6.out hlg (show g + 1 ≠ g by omega)).trans k0, (grown_cell G6.out hlx (show w.heap.size + 1 ≠ g by omega)).trans k1, (grown_cell G6.out hlq (show w.heap.size + 1 + 1 ≠ g by omega)).trans k2, (grown_cell G6.out hly (show b' ≠ g by omega)).trans k3⟩ (fun hHeld => ?_)
    clear hK K
    try simp only [Act.put, List.setIfInBounds_toArray, List.set_cons_zero, List.set_cons_succ, List.getElem_toArray, List.getElem_cons_zero, List.getElem_cons_succ]
    refine wpAnyH_done (by kernel_rfl) ?_ _
    refine ⟨rfl, ?_⟩
    have hcur : ∀ (j : Nat) (o : Obj), some g = some j → W.heap[j]? = some o → o.isCells = true := by
      rintro j o e ho
      cases e
      rcases HROW.out.2 with ⟨e0, _⟩ | ⟨g', cap'', cur, e0, _, hgb, _⟩
      · cases e0
      · cases e0
        rw [hgb] at ho
        cases ho
        rfl
    have hgl : w.heap.size ≤ g := by omega
    have BW := (Below.refl w.heap.size W).grown GW.out HB.out.size (fun k e => by cases e; exact hgl)
    refine ⟨(KeepsOthers.of_grownBy GW.out hcur).from _, ⟨BW, fun hb => (GW.out.block _ hb.lt (fun e => absurd (Option.some.inj e) (by omega))).trans hb⟩, ⟨_, hBU.out.kept GW.out (fun e => absurd (Option.some.inj e) (by omega)), ?_, rfl⟩, ⟨hBX.out.kept GW.out (fun e => absurd (Option.some.inj e) (by omega)), hBQ.out.kept GW.out (fun e => absurd (Option.some.inj e) (by omega))⟩, HB.out.trans BW⟩
    rw [HSN.out]
    exact O6.out
  case done =>
    rintro D ys W hD rfl ⟨⟨u, hu, hrow, hu2⟩, ⟨hbx, hbq⟩, hB⟩ hK
    have hu3 : u = .slice (some ⟨g, 0, none⟩) C C := hu2
    subst hu3
    have cp := Boxed.cell hu
    have HROW := Lib.hid hrow
    have HB := Lib.hid hB
    clear hu hu2 hbx hbq hB hrow
    gi_wp2
    refine ⟨by simp, .inl ⟨_, _, rfl, run_takeDeferred hK, ?_⟩⟩
    refine ⟨_, results_tmp2 rfl _ _ _, _, rfl, ?_, HB.out.trans (belowK_b (w := W5) (by omega) W D _ _ (by omega) hK rfl rfl)⟩
    have := ownsRow_putObj HROW.out (Obj.deferred none) hK rfl
    rw [backP_all _ _ _ _ _ rfl] at this
    rw [backL_length]
    exact this
  case stop =>
    rintro D c pre W _ _ h _
    exact h.elim
end
end Go.Proofs.Ytinflmjombcolaa
