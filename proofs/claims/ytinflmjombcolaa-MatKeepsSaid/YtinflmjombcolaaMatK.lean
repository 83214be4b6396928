/- Layer 7: Mul where there is a product. -/
import Derived.Test.YtinflmjombcolaaMatJ
import Derived.Test.YtinflmjombcolaaMatM
import Derived.Test.YtinflmjombcolaaFen
import Derived.Sort.CutIn
namespace Go.Proofs.Ytinflmjombcolaa
open Go.RowKit Go.Shelf
set_option linter.unusedVariables false
def AnyF {R : Nat} (pre : List (Fin R)) (v : Value) : Prop := True
def NewInts (zs : List Int) (w : World) (e : Ending) (w' : World) : Prop :=
  ∃ v, e = .returned (.tuple #[v, .bool true]) ∧ w'.ownsRow w.heap.size 2 1 v zs.length (zs.map (Value.int .i64)) ∧ Below w.heap.size w w'
theorem BoxM.later {W W' : World} {B R C : Nat} {v : Value} (h : BoxM W B R C v) (b : Below W.heap.size W W') : BoxM W' B R C v := (b.block _ h.lt).trans h
theorem boxed_later {W W' : World} {B : Nat} {t : TypeId} {v : Value} (h : Boxed W B t v) (b : Below W.heap.size W W') : Boxed W' B t v := (b.block _ (show B < W.heap.size from h.lt)).trans h
theorem three_boxes (w : World) (R C : Nat) (v xv qv : Value) : ∃ W3, ((w.alloc (.cells #[.int .i64 R, .int .i64 C, v] 29)).alloc (.cells #[xv] 27)).alloc (.cells #[qv] 3) = W3 ∧
    BoxM W3 w.heap.size R C v ∧ Boxed W3 (w.heap.size + 1) 27 xv ∧ Boxed W3 (w.heap.size + 1 + 1) 3 qv ∧ Below w.heap.size w W3 ∧ W3.heap.size = w.heap.size + 3 := by
  refine ⟨_, rfl, ?_, ?_, ?_, ?_, by simp⟩
  · exact ((BoxM.new w R C v).later ((Below.refl _ _).alloc (Nat.le_refl _) _)).later ((Below.refl _ _).alloc (Nat.le_refl _) _)
  · have h := Boxed.new (w.alloc (.cells #[.int .i64 R, .int .i64 C, v] 29)) 27 xv
    rw [World.size_alloc] at h
    exact h.alloc _
  · have h := Boxed.new ((w.alloc (.cells #[.int .i64 R, .int .i64 C, v] 29)).alloc (.cells #[xv] 27)) 3 qv
    rw [World.size_alloc, World.size_alloc] at h
    exact h
  · exact (((Below.refl _ w).alloc (Nat.le_refl _) _).alloc (by simp) _).alloc (by simp; omega) _
theorem made_two (w1 : World) (R base : Nat) (hb : base ≤ w1.heap.size) (hm : R ≤ 1048576) : ∃ W4, (w1.alloc (.cells (madeCells #[.int .i64 0] R) 2)).alloc (.cells #[.slice (some ⟨w1.heap.size, 0, none⟩) R R] 27) = W4 ∧
    Below w1.heap.size w1 W4 ∧ Boxed W4 (w1.heap.size + 1) 27 (.slice (some ⟨w1.heap.size, 0, none⟩) R R) ∧ W4.ownsRow base 2 1 (.slice (some ⟨w1.heap.size, 0, none⟩) R R) R (List.replicate R (.int .i64 0)) ∧ W4.heap.size = w1.heap.size + 2 := by
  refine ⟨_, rfl, ?_, ?_, ?_, by simp⟩
  · exact ((Below.refl _ w1).alloc (Nat.le_refl _) _).alloc (by simp) _
  · have h := Boxed.new (w1.alloc (.cells (madeCells #[.int .i64 0] R) 2)) 27 (.slice (some ⟨w1.heap.size, 0, none⟩) R R)
    rw [World.size_alloc] at h
    exact h
  · have h := owns_made (w := w1) (base := base) (e := 2) (size := 1) (n := R) (u := .int .i64 0) (z := #[.int .i64 0]) rfl (by decide) hb (by unfold maxLen; omega)
    rw [Nat.mul_one] at h
    exact h.alloc _
theorem rowAt {zs : List Int} {R C r n n₀ b off cap : Nat} {w : World} (h : IntsAt .i64 n₀ w (.slice (some ⟨b, off, none⟩) n cap) zs) (hl : zs.length = R * C) (hr : r < R) : IntsAt .i64 n₀ w (.slice (some ⟨b, off + r * C, none⟩) C C) (rowL zs C r) := by
  rcases h.form with ⟨e, _⟩ | ⟨b', off', cap', e, hn, hb, hc⟩
  · cases e
  · cases e
    have h1 : (r + 1) * C ≤ R * C := Nat.mul_le_mul_right C (by omega)
    rw [Nat.succ_mul] at h1
    have hr0 := rowL_length hl hr
    have := IntsAt.mk (q := .i64) (n₀ := n₀) (b := b) (off := off + r * C) (cap := C) (w := w) (zs := rowL zs C r) (by omega) hb (fun j hj => by
      rw [rowL_get hl hr (by omega), Nat.add_assoc]
      exact hc _ (by omega))
    rw [hr0] at this
    exact this
def IsV {R : Nat} (v : Value) (pre : List (Fin R)) (u : Value) : Prop := u = v
section
attribute [local go_sem] Oper.semAt_some
set_option maxRecDepth 100000 in
set_option maxHeartbeats 2000000 in
theorem mul_yes (R C : Nat) (v u : Value) (zs xs : List Int) (q : Int) (h : mulB R C zs.length xs.length = true) (hz : ∀ z ∈ zs, Word z) (hx : ∀ z ∈ xs, Word z) (hm : zs.length ≤ 1048576) (w : World) (hv0 : IntsW .i64 w.heap.size w v zs) (hu : IntsAt .i64 w.heap.size w u xs) :
    Calls Try.prog 20 #[.agg #[.int .i64 R, .int .i64 C, v], u, .int .i64 q] w (NewInts (mulL R C zs xs q) w) := by
  obtain ⟨a', cap', rfl⟩ := ints_value hu
  have hr : rightB R C zs.length = true := by unfold mulB at h; simp only [Bool.and_eq_true] at h; exact h.1
  have hxc : xs.length = C := by unfold mulB at h; simp only [Bool.and_eq_true, decide_eq_true_eq] at h; omega
  obtain ⟨r1, r2, c1, c2, hlen⟩ := right_some hr
  have hlen' : zs.length = R * C := by
    have : (zs.length : Int) = ((R * C : Nat) : Int) := by rw [hlen]; simp
    omega
  have hpos : 0 < zs.length := by rw [hlen']; exact Nat.mul_pos (by omega) (by omega)
  have hv := hv0.at hpos
  clear hv0
  rcases hv.form with ⟨_, e0⟩ | ⟨b, off, cap, rfl, hcap, hb, hcs⟩
  · rw [e0] at hpos; cases hpos
  subst hxc
  have HR := Lib.hid (fun W => mright_any R xs.length (some ⟨b, off, none⟩) zs.length cap W)
  rw [hr] at HR
  obtain ⟨W3, hW3, bm, bx, bq, b3, hs3⟩ := three_boxes w R xs.length (.slice (some ⟨b, off, none⟩) zs.length cap) (.slice a' xs.length cap') (.int .i64 q)
  have hmk := run_make_elem elemVec .i64 .i64 R (by omega) (by omega)
  have g1 : ((xs.length : Int) != (xs.length : Int)) = false := by simp
  have HL := Lib.hid hlen'
  have HV := Lib.hid hv
  have HU := Lib.hid hu
  clear hlen' hlen hcs h hr hv hu
  refine (callsIn_wide (n := 8)).1 ?_
  refine callsIn_of_wp_marks Try.func20 rfl trivial ?_ rfl
  simp only [Try.ntmps20, List.size_toArray, List.length_cons, List.length_nil, Nat.reduceAdd, Nat.reduceSub, Array.replicate_succ, Array.replicate_zero, List.push_toArray, List.append_toArray, List.nil_append, List.cons_append]
  gi_upto_region 1 with fail
  try rw [hW3]
  have k0 := bm.cells.1
  have k1 := bm.cells.2.1
  have k2 := bm.cells.2.2
  have kx := bx.cell
  have B3 := Lib.hid b3
  have BM := Lib.hid bm
  have BX := Lib.hid bx
  have BQ := Lib.hid bq
  have HW3 := Lib.hid hW3
  clear b3 bm bx bq hW3
  gi_wp2_with fail
  refine ⟨trivial, ?_⟩
  refine (callsIn_wide.2 (HR.out _)).mono ?_
  rintro e w1 ⟨rfl, b1⟩
  have BM1 := Lib.hid (BM.out.later b1)
  have BX1 := Lib.hid (boxed_later BX.out b1)
  have BQ1 := Lib.hid (boxed_later BQ.out b1)
  have B1 := Lib.hid (below_step B3.out b1)
  have hsz := b1.size
  rw [hs3] at hsz
  have d0 := BM1.out.cells.1
  have d1 := BM1.out.cells.2.1
  have d2 := BM1.out.cells.2.2
  have dx := Boxed.cell BX1.out
  clear b1 k0 k1 k2 kx
  obtain ⟨W4, hW4, b4, bp, ow, hs4⟩ := made_two w1 R w.heap.size B1.out.size (by omega)
  gi_upto_region 4 with fail
  try rw [hW4]
  have BM4 := Lib.hid (BM1.out.later b4)
  have BX4 := Lib.hid (boxed_later BX1.out b4)
  have BQ4 := Lib.hid (boxed_later BQ1.out b4)
  have B4 := Lib.hid (below_step B1.out b4)
  have BP4 := Lib.hid bp
  have OW4 := Lib.hid ow
  clear b4 bp ow hW4 d0 d1 d2 dx
  have d0 := BM4.out.cells.1
  have d1 := BM4.out.cells.2.1
  have d2 := BM4.out.cells.2.2
  generalize w1.heap.size = g at *
  gi_wp2_with fail
  refine ⟨trivial, ?_⟩
  refine (callsIn_wide.2 (rows_any R xs.length (some ⟨b, off, none⟩) zs.length cap _)).mono ?_
  rintro e W5 ⟨rfl, rfl⟩
  gi_wp2_with fail
  have bm5 := BoxM.new W4 R xs.length (.slice (some ⟨b, off, none⟩) zs.length cap)
  rw [hs4] at bm5
  have b5 := (Below.refl W4.heap.size W4).alloc (Nat.le_refl _) (.cells #[.int .i64 R, .int .i64 xs.length, .slice (some ⟨b, off, none⟩) zs.length cap] 29)
  have BX5 := boxed_later BX4.out b5
  have BQ5 := boxed_later BQ4.out b5
  have BP5 := boxed_later BP4.out b5
  have B5 := below_step B4.out b5
  have OW5 := own_below OW4.out b5
  have hs5 : (W4.alloc (.cells #[.int .i64 R, .int .i64 xs.length, .slice (some ⟨b, off, none⟩) zs.length cap] 29)).heap.size = g + 3 := by simp [hs4]
  generalize W4.alloc (.cells #[.int .i64 R, .int .i64 xs.length, .slice (some ⟨b, off, none⟩) zs.length cap] 29) = W5 at bm5 BX5 BQ5 BP5 B5 OW5 hs5 ⊢
  clear b5 d0 d1 d2 BM4 BX4 BQ4 BP4 B4 OW4 hs4 BM1 BX1 BQ1 B1 BM BX BQ B3
  refine wpIn_rangeFunc_ownH rfl (by omega) (gf := 41) (lb := #[.pointer (some ⟨g + 2, 0, none⟩)]) rfl trivial (enters_of Try.func41 (by kernel_rfl) rfl)
    (rows_stops 7 (by omega) (g + 2) w.heap.size R xs.length zs.length cap b off (by omega) (by omega) (by omega) HL.out hm hcap W5 (by omega) bm5) KeepM.trans (keepM_b (by omega) (by omega)) (Below.refl _ _) (fun _ => rfl)
    (fun pre W => (∃ u, Boxed W (g + 1) 27 u ∧ W.ownsRow w.heap.size 2 1 u R ((fillP R (fun r => dotV (rowL zs xs.length r) xs q) pre).map (Value.int .i64)) ∧ IsV (.slice (some ⟨g, 0, none⟩) R R) pre u) ∧ (Boxed W (w.heap.size + 1) 27 (.slice a' xs.length cap') ∧ Boxed W (w.heap.size + 1 + 1) 3 (.int .i64 q)) ∧ Below w.heap.size w W)
    (fun _ _ _ => False)
    (OwnFrom.and (Own.from (holdsRow_own w.heap.size (g + 1) 27 2 1 (fun _ => R) (fun pre => (fillP R (fun r => dotV (rowL zs xs.length r) xs q) pre).map (Value.int .i64)) (IsV (.slice (some ⟨g, 0, none⟩) R R))) _) (OwnFrom.and (OwnFrom.and (Own.from (boxed_own (w.heap.size + 1) 27 (fun _ => .slice a' xs.length cap')) _) (Own.from (boxed_own (w.heap.size + 1 + 1) 3 (fun _ => .int .i64 q)) _)) (ownFrom_below (Nat.le_refl _) (by omega))))
    (fun _ _ _ _ _ hs _ _ => hs)
    ⟨⟨_, BP5, by rw [fillP_nil, List.map_replicate]; exact OW5, rfl⟩, ⟨BX5, BQ5⟩, B5⟩
    (fun x a'' W => a'' = { tmps := #[Value.agg #[Value.int IntKind.i64 ↑R, Value.int IntKind.i64 ↑xs.length, Value.slice (some { block := b, off := off }) zs.length cap],
          Value.slice a' xs.length cap', Value.int IntKind.i64 q,
          Value.pointer (some { block := w.heap.size, off := 0 }),
          Value.pointer (some { block := w.heap.size + 1, off := 0 }),
          Value.pointer (some { block := w.heap.size + 1 + 1, off := 0 }), Value.slice none 0 0, Value.bool false,
          Value.pointer (some { block := g + 1, off := 0 }), .int .i64 x.val, .slice (some ⟨b, off + x.val * xs.length, none⟩) xs.length xs.length,
          Value.agg
            #[Value.int IntKind.i64 ↑R, Value.int IntKind.i64 ↑xs.length,
              Value.slice (some { block := b, off := off }) zs.length cap],
          Value.bool true, Value.bool false, Value.bool false, Value.slice a' xs.length cap',
          Value.int IntKind.i64 ↑xs.length, Value.pointer (some { block := w.heap.size, off := 1 }),
          Value.int IntKind.i64 ↑xs.length, Value.bool false, Value.bool false,
          Value.pointer (some { block := w.heap.size, off := 0 }), Value.int IntKind.i64 ↑R,
          Value.slice (some { block := g, off := 0 }) R R,
          Value.agg
            #[Value.int IntKind.i64 ↑R, Value.int IntKind.i64 ↑xs.length,
              Value.slice (some { block := b, off := off }) zs.length cap],
          Value.func (Fn.func 41) #[] #[Value.pointer (some { block := g + 2, off := 0 })], .int .i64 x.val, .slice (some ⟨b, off + x.val * xs.length, none⟩) xs.length xs.length, undef, undef,
          undef, undef, undef, undef, undef, undef, undef, undef, undef], defers := [] })
    (fun x a'' _ X Y row hs hg hr => hs)
    ?assign ?body ?done ?stop
  case assign =>
    rintro l pre x W K hI hK
    unfold encM
    gi_wp2
    exact hK _ _ (KeepsFrom.refl _ _) ⟨Below.refl _ _, fun h => h⟩ hI rfl
  case body =>
    rintro l pre ⟨r, hrR⟩ a'' W hl ⟨rl, hrl⟩ ⟨⟨u, hu, hrow, hu2⟩, ⟨hbx, hbq⟩, hB⟩ rfl hlt
    have hu3 : u = .slice (some ⟨g, 0, none⟩) R R := hu2
    subst hu3
    dsimp only
    have cp := Boxed.cell hu
    have cx := Boxed.cell hbx
    have cq := Boxed.cell hbq
    have hrl := rowL_length HL.out hrR
    have HW := Lib.hid (fun z (hz' : z ∈ rowL zs xs.length r) => hz z (rowL_mem hz'))
    have HX := Lib.hid hx
    have HB := Lib.hid hB
    have HROW := Lib.hid hrow
    have hBU := Lib.hid hu
    have hBX := Lib.hid hbx
    have hBQ := Lib.hid hbq
    have hrl8 : (rowL zs xs.length r).length * 8 ≤ 140737488351232 := by omega
    have ri0 : (0 : Int) ≤ (r : Int) := by omega
    have ri1 : (r : Int) < (R : Int) := by omega
    clear hrl hu hbx hbq hB hrow hx hlt hu2
    gi_wp2_with fail
    refine wpIn_region_heldR (S := fun w' => w'.cell? ⟨g + 1, 0, none⟩ = some (.slice (some ⟨g, 0, none⟩) R R) ∧ w'.cell? ⟨w.heap.size + 1, 0, none⟩ = some (.slice a' xs.length cap') ∧ w'.cell? ⟨w.heap.size + 1 + 1, 0, none⟩ = some (.int .i64 q)) (by kernel_rfl) (by kernel_rfl) ?_ (fun hHeld => ?_)
    · exact ⟨cp, cx, cq⟩
    refine wpAnyH_take (i := 0) (v := ?v1) rfl (by kernel_rfl) (by kernel_rfl) (by kernel_rfl) (fun _ _ _ h => h) (Or.inl ⟨by rfl, ?hy1⟩) (by assumption) ?rest1
    case hy1 => (intro w hSw; (try dsimp only at hSw); go_simp; (first | done | with_reducible rfl))
    simp only [Act.put, List.setIfInBounds_toArray, List.set_cons_zero, List.set_cons_succ, List.getElem_toArray, List.getElem_cons_zero]
    refine wpAnyH_take (i := 1) (v := ?v2) rfl (by kernel_rfl) (by kernel_rfl) (by kernel_rfl) (fun _ _ _ h => h) (Or.inl ⟨by rfl, ?hy2⟩) (by assumption) ?rest2
    case hy2 => (intro w hSw; (try dsimp only at hSw); go_simp; (first | done | with_reducible rfl))
    simp only [Act.put, List.setIfInBounds_toArray, List.set_cons_zero, List.set_cons_succ, List.getElem_toArray, List.getElem_cons_zero, List.getElem_cons_succ]
    refine wpAnyH_take (i := 2) (v := ?v3) rfl (by kernel_rfl) (by kernel_rfl) (by kernel_rfl) (fun _ _ _ h => h) (Or.inl ⟨by rfl, ?hy3⟩) (by assumption) ?rest3
    case hy3 => (intro w hSw; (try dsimp only at hSw); go_simp; (first | done | with_reducible rfl))
    simp only [Act.put, List.setIfInBounds_toArray, List.set_cons_zero, List.set_cons_succ, List.getElem_toArray, List.getElem_cons_zero, List.getElem_cons_succ]
    refine wpAnyH_take (i := 3) (v := ?v4) rfl (by kernel_rfl) (by kernel_rfl) (by kernel_rfl) (fun _ _ _ h => h) (Or.inl ⟨by rfl, ?hy4⟩) (by assumption) ?rest4
    case hy4 => (intro w hSw; (try dsimp only at hSw); go_simp; (first | done | with_reducible rfl))
    simp only [Act.put, List.setIfInBounds_toArray, List.set_cons_zero, List.set_cons_succ, List.getElem_toArray, List.getElem_cons_zero, List.getElem_cons_succ]
    refine wpAnyH_take (i := 4) (v := ?v5) rfl (by kernel_rfl) (by kernel_rfl) (by kernel_rfl) (fun _ _ _ h => h) (Or.inl ⟨by rfl, ?hy5⟩) (by assumption) ?rest5
    case hy5 => (intro w hSw; (try dsimp only at hSw); go_simp; (first | done | with_reducible rfl))
    simp only [Act.put, List.setIfInBounds_toArray, List.set_cons_zero, List.set_cons_succ, List.getElem_toArray, List.getElem_cons_zero, List.getElem_cons_succ]
    refine wpAnyH_ready (rs := [5]) (by kernel_rfl) (by simp) ?_
    refine AllReadyH.cons rfl (fun K hK => ?_) AllReadyH.nil
    try simp only [Act.put, List.setIfInBounds_toArray, List.set_cons_zero, List.set_cons_succ, List.getElem_toArray, List.getElem_cons_zero, List.getElem_cons_succ]
    go_simp
    go_at_call 35
    obtain ⟨h_0, h_1, h_2⟩ := hHeld
    have BD := Lib.hid HB.out.drew
    have RD := Lib.hid (own_below HROW.out (Below.refl _ _).drew)
    refine (dot_any _ _ (rowL zs xs.length r) xs q HW.out HX.out hrl8 (by omega) _ (rowAt ((HV.out.below BD.out).grow BD.out.size) HL.out hrR) ((HU.out.below BD.out).grow BD.out.size)).mono ?_
    rintro e w5 ⟨rfl, b5⟩
    have G5 := Lib.hid (grown_trans (grown_below (Below.refl W.heap.size W).drew (some g)) (grown_below b5 _))
    have k0 := cell_step b5 h_0
    have k1 := cell_step b5 h_1
    have k2 := cell_step b5 h_2
    have R5 := Lib.hid (own_below RD.out b5)
    clear b5 h_0 h_1 h_2
    generalize hd : dotV (rowL zs xs.length r) xs q = d at *
    generalize dotB (rowL zs xs.length r) xs = db at *
    have HD := Lib.hid hd
    clear hd
    go_wp2_with fail
    refine hK.out _ _ ⟨k0, k1, k2⟩ (fun hHeld => ?_)
    clear hK K
    try simp only [Act.put, List.setIfInBounds_toArray, List.set_cons_zero, List.set_cons_succ, List.getElem_toArray, List.getElem_cons_zero, List.getElem_cons_succ]
    refine wpAnyH_take (i := 6) (v := ?v6) rfl (by kernel_rfl) (by kernel_rfl) (by kernel_rfl) (fun _ _ _ h => h) (Or.inl ⟨by rfl, ?hy6⟩) (by assumption) ?rest6
    case hy6 => (intro w hSw; (try dsimp only at hSw); go_simp; (first | done | with_reducible rfl))
    simp only [Act.put, List.setIfInBounds_toArray, List.set_cons_zero, List.set_cons_succ, List.getElem_toArray, List.getElem_cons_zero, List.getElem_cons_succ]
    refine wpAnyH_take (i := 7) (v := ?v7) rfl (by kernel_rfl) (by kernel_rfl) (by kernel_rfl) (fun _ _ _ h => h) (Or.inl ⟨by rfl, ?hy7⟩) (by assumption) ?rest7
    case hy7 => (intro w hSw; (try dsimp only at hSw); go_simp; (first | done | with_reducible rfl))
    simp only [Act.put, List.setIfInBounds_toArray, List.set_cons_zero, List.set_cons_succ, List.getElem_toArray, List.getElem_cons_zero, List.getElem_cons_succ]
    refine wpAnyH_take (i := 8) (v := ?v8) rfl (by kernel_rfl) (by kernel_rfl) (by kernel_rfl) (fun _ _ _ h => h) (Or.inl ⟨by rfl, ?hy8⟩) (by assumption) ?rest8
    case hy8 => (intro w hSw; (try dsimp only at hSw); go_simp; (first | done | with_reducible rfl))
    simp only [Act.put, List.setIfInBounds_toArray, List.set_cons_zero, List.set_cons_succ, List.getElem_toArray, List.getElem_cons_zero, List.getElem_cons_succ]
    refine wpAnyH_take (i := 9) (v := ?v9) rfl (by kernel_rfl) (by kernel_rfl) (by kernel_rfl) (fun _ _ _ h => h) (Or.inl ⟨by rfl, ?hy9⟩) (by assumption) ?rest9
    case hy9 => (intro w hSw; (try dsimp only at hSw); go_simp; (first | done | with_reducible rfl))
    simp only [Act.put, List.setIfInBounds_toArray, List.set_cons_zero, List.set_cons_succ, List.getElem_toArray, List.getElem_cons_zero, List.getElem_cons_succ]
    refine wpAnyH_ready (rs := [10]) (by kernel_rfl) (by simp) ?_
    refine AllReadyH.cons rfl (fun K hK => ?_) AllReadyH.nil
    simp only [List.getElem_toArray, List.getElem_cons_zero, List.getElem_cons_succ]
    have rc := R5.out.cellAt r (by omega)
    have rf := R5.out.frozenAt r
    rw [List.getElem?_map, List.getElem?_eq_getElem (by rw [fillP_length]; exact hrR), Option.map_some] at rc
    go_simp
    have ST := R5.out.stored r (.int .i64 d)
    rw [List.set_map_eq] at ST
    have hlg := World.block_lt_of_cell? _ _ k0
    have hlx := World.block_lt_of_cell? _ _ k1
    have hlq := World.block_lt_of_cell? _ _ k2
    have GW := Lib.hid (grown_trans G5.out ST.2)
    refine hK.out _ _ ⟨(grown_cell ST.2 hlg (show g + 1 ≠ g by omega)).trans k0, (grown_cell ST.2 hlx (show w.heap.size + 1 ≠ g by omega)).trans k1, (grown_cell ST.2 hlq (show w.heap.size + 1 + 1 ≠ g by omega)).trans k2⟩ (fun hHeld => ?_)
    clear hK K
    try simp only [Act.put, List.setIfInBounds_toArray, List.set_cons_zero, List.set_cons_succ, List.getElem_toArray, List.getElem_cons_zero, List.getElem_cons_succ]
    refine wpAnyH_done (by kernel_rfl) ?_ _
    refine ⟨rfl, ?_⟩
    have hcur : ∀ (j : Nat) (o : Obj), some g = some j → W.heap[j]? = some o → o.isCells = true := by
      rintro j o e ho
      cases e
      rcases HROW.out.2 with ⟨e0, _⟩ | ⟨g', cap'', cur, e0, _, hgb, _⟩
      · cases e0
      · cases e0
        rw [hgb] at ho
        cases ho
        rfl
    have hgl : w.heap.size ≤ g := by omega
    have BW := (Below.refl w.heap.size W).grown GW.out HB.out.size (fun k e => by cases e; exact hgl)
    refine ⟨(KeepsOthers.of_grownBy GW.out hcur).from _, ⟨BW, fun hb => (GW.out.block _ hb.lt (fun e => absurd (Option.some.inj e) (by omega))).trans hb⟩, ⟨_, hBU.out.kept GW.out (fun e => absurd (Option.some.inj e) (by omega)), ?_, rfl⟩, ⟨hBX.out.kept GW.out (fun e => absurd (Option.some.inj e) (by omega)), hBQ.out.kept GW.out (fun e => absurd (Option.some.inj e) (by omega))⟩, HB.out.trans BW⟩
    rw [fillP_snoc]
    dsimp only
    rw [HD.out]
    exact ST.1
  case done =>
    rintro D ys W hD rfl ⟨⟨u, hu, hrow, hu2⟩, ⟨hbx, hbq⟩, hB⟩ hK
    have hu3 : u = .slice (some ⟨g, 0, none⟩) R R := hu2
    subst hu3
    have cp := Boxed.cell hu
    have HROW := Lib.hid hrow
    have HB := Lib.hid hB
    clear hu hu2 hbx hbq hB hrow
    gi_wp2
    refine ⟨by simp, .inl ⟨_, _, rfl, run_takeDeferred hK, ?_⟩⟩
    refine ⟨_, results_tmp2 rfl _ _ _, _, rfl, ?_, HB.out.trans (belowK_b (w := W5) (by omega) W D _ _ (by omega) hK rfl rfl)⟩
    have := ownsRow_putObj HROW.out (Obj.deferred none) hK rfl
    rw [fillP_all] at this
    rw [mulL_length]
    exact this
  case stop =>
    rintro D c pre W _ _ h _
    exact h.elim
end
end Go.Proofs.Ytinflmjombcolaa
