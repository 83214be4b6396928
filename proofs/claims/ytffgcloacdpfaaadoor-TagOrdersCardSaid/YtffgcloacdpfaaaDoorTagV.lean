/- The reference's Unpack. -/
import Derived.Test.YtffgcloacdpfaaaDoorTagW
namespace Go.Proofs.YtffgcloacdpfaaaDoor
open Go.RowKit
set_option linter.unusedVariables false
theorem all_range_eqI : ∀ (xs ys : List Int), xs.length = ys.length → ((List.range xs.length).all fun i => xs.getD i 0 == ys.getD i 0) = (xs == ys)
  | [], [], _ => rfl
  | x :: xs, y :: ys, h => by
    have ih := all_range_eqI xs ys (by simpa using h)
    rw [List.length_cons, List.range_succ_eq_map, List.all_cons, List.all_map]
    simp only [List.getD_cons_zero, Function.comp_def, List.getD_cons_succ, ih]
    simp [List.cons_beq_cons]
  | [], _ :: _, h => by simp at h
  | _ :: _, [], h => by simp at h
theorem equalIn_words2 {P : Program} (w : World) (d : Nat) (t e : TypeId) (n : Nat) (ht : P.underlying t = some (.array n e)) (he : P.underlying e = some (.int .u64)) (hsz : ∀ w, (sizeOf e).run P w = .ok 1 w)
    (xs ys : List Int) (hx : xs.length = n) (hy : ys.length = n) :
    (Op.equalIn (d + 2) t (.agg (xs.map (Value.int .u64)).toArray) (.agg (ys.map (Value.int .u64)).toArray)).run P w = .ok (xs == ys) w := by
  rw [← all_range_eqI xs ys (hx.trans hy.symm), hx, List.range_eq_range', Op.equalIn]
  simp only [Sem.run_bind, run_underlying ht, Result.andThen_ok, hsz, Std.Legacy.Range.forIn_eq_forIn_range', Std.Legacy.Range.size, Nat.sub_zero, Nat.add_sub_cancel, Nat.div_one]
  have hl : ∀ i ∈ List.range' 0 n 1, i < n := fun i hi => by simpa using (List.mem_range'_1.1 hi).2
  generalize List.range' 0 n 1 = l at hl ⊢
  induction l with
  | nil => simp
  | cons i l ih =>
    have hi : i < n := hl i (by simp)
    have px : (part e (xs.map (Value.int .u64)).toArray (i * 1)).run P w = .ok (.int .u64 (xs.getD i 0)) w := by
      simp [part, isAgg, run_underlying he, List.getD, List.getElem?_eq_getElem (show i < xs.length by omega)]
    have py : (part e (ys.map (Value.int .u64)).toArray (i * 1)).run P w = .ok (.int .u64 (ys.getD i 0)) w := by
      simp [part, isAgg, run_underlying he, List.getD, List.getElem?_eq_getElem (show i < ys.length by omega)]
    have pe : (Op.equalIn (d + 1) e (.int .u64 (xs.getD i 0)) (.int .u64 (ys.getD i 0))).run P w = .ok (xs.getD i 0 == ys.getD i 0) w := run_equalIn_int w d e .u64 .u64 _ _ he
    simp only [List.forIn_cons, Sem.run_bind, px, py, pe, Result.andThen_ok, List.all_cons]
    cases hb : (xs.getD i 0 == ys.getD i 0)
    · simp
    · simp only [Bool.not_true, Bool.false_eq_true, if_false, Sem.run_pure, Result.andThen_ok, Bool.true_and]
      exact ih fun j hj => hl j (by simp [hj])
theorem equalIn_pair (A B U V : Int) (w : World) : (Op.equalIn 10000 25 (.agg #[.int .u64 A, .int .u64 B]) (.agg #[.int .u64 U, .int .u64 V])).run Tryd.prog w = .ok ([A, B] == [U, V]) w :=
  equalIn_words2 (P := Tryd.prog) w 9998 25 24 2 Tryd.underlying25 Tryd.underlying24 (by intro W; kernel_rfl) [A, B] [U, V] rfl rfl
theorem neq_pair (A B U V : Int) (w : World) : (binOp .neq 25 (.agg #[.int .u64 A, .int .u64 B]) (.agg #[.int .u64 U, .int .u64 V])).run Tryd.prog w = .ok (.bool (!([A, B] == [U, V]))) w := by
  rw [run_neq_struct]
  exact (congrArg (fun r => Result.andThen r fun b w' => Result.ok (Value.bool (!b)) w') (equalIn_pair A B U V w))
def vA (U : Int) : Int := U / 1048576 % 1099511627776
def vC (V : Int) : Int := V / 1048576 / 64 % 1099511627776
/-- what the reference's numbers say of the program's -/
theorem un_ref (U V : Int) (h1 : 0 ≤ U) (h2 : U < 18446744073709551616) (h3 : 0 ≤ V) (h4 : V < 18446744073709551616) :
    (rightB (vA U) (unB U) (vC V) (unD V) (unE V) = false → rightB (unA U) (unB U) (unC V) (unD V) (unE V) = false) ∧
    (rightB (vA U) (unB U) (vC V) (unD V) (unE V) = true → ([packU (vA U) (unB U), packV (vC V) (unD V) (unE V)] == [U, V]) = rightB (unA U) (unB U) (unC V) (unD V) (unE V)) ∧
    (rightB (unA U) (unB U) (unC V) (unD V) (unE V) = true → vA U = unA U ∧ vC V = unC V) := by
  have hs : rightB (unA U) (unB U) (unC V) (unD V) (unE V) = true → vA U = unA U ∧ vC V = unC V := fun h => by
    obtain ⟨k1, _, k3, _, _⟩ := right_is h
    unfold unA at k1
    unfold unC at k3
    unfold vA vC unA unC
    omega
  refine ⟨fun h => ?_, fun h => ?_, hs⟩
  · cases hr : rightB (unA U) (unB U) (unC V) (unD V) (unE V)
    · rfl
    · rw [(hs hr).1, (hs hr).2, hr] at h
      cases h
  · cases hr : rightB (unA U) (unB U) (unC V) (unD V) (unE V)
    · rw [Bool.eq_false_iff]
      intro he
      have h5 : packU (vA U) (unB U) = U ∧ packV (vC V) (unD V) (unE V) = V := by simpa using he
      have h6 : vA U = unA U ∧ vC V = unC V := by
        unfold packU packV vA vC unB unD unE at h5
        unfold vA vC unA unC
        omega
      rw [h6.1, h6.2, hr] at h
      cases h
    · rw [(hs hr).1, (hs hr).2]
      have h5 : packU (unA U) (unB U) = U ∧ packV (unC V) (unD V) (unE V) = V := by
        unfold packU packV unA unB unC unD unE
        omega
      rw [h5.1, h5.2]
      simp
set_option maxHeartbeats 4000000 in
theorem refUnpack_any (U V : Int) (h1 : 0 ≤ U) (h2 : U < 18446744073709551616) (h3 : 0 ≤ V) (h4 : V < 18446744073709551616) (w : World) :
    Calls Tryd.prog 14 #[.agg #[.int .u64 U, .int .u64 V]] w (UnpackIs U V w) := by
  have HMT := Lib.hid (un_ref U V h1 h2 h3 h4)
  have AL := (Below.refl w.heap.size w).alloc (Nat.le_refl _) (.cells #[.int .u64 U, .int .u64 V] 25)
  have W1b := (Below.refl (w.alloc (.cells #[.int .u64 U, .int .u64 V] 25)).heap.size (w.alloc (.cells #[.int .u64 U, .int .u64 V] 25))).alloc (Nat.le_refl _) (.cells #[.int .i64 0, .int .i64 0, .int .i64 0, .int .i64 0, .int .i64 0] 23)
  have p01 := cells_two w (.int .u64 U) (.int .u64 V) 25
  have p0 := cell_step W1b p01.1
  have p1 := cell_step W1b p01.2
  have hz : (w.alloc (.cells #[.int .u64 U, .int .u64 V] 25)).heap.size = w.heap.size + 1 := by simp
  have z := cells_five (w.alloc (.cells #[.int .u64 U, .int .u64 V] 25)) (.int .i64 0) (.int .i64 0) (.int .i64 0) (.int .i64 0) (.int .i64 0) 23
  have zf := World.frozen?_alloc_new (w.alloc (.cells #[.int .u64 U, .int .u64 V] 25)) #[.int .i64 0, .int .i64 0, .int .i64 0, .int .i64 0, .int .i64 0] 23
  rw [hz] at z zf
  have B2 := below_step AL W1b
  have hz2 : ((w.alloc (.cells #[.int .u64 U, .int .u64 V] 25)).alloc (.cells #[.int .i64 0, .int .i64 0, .int .i64 0, .int .i64 0, .int .i64 0] 23)).heap.size = w.heap.size + 2 := by simp
  clear p01
  have b0 : 0 ≤ U / 1048576 % 1099511627776 ∧ U / 1048576 % 1099511627776 < 1099511627776 := by omega
  have b4_ : 0 ≤ V / 1048576 / 64 % 1099511627776 ∧ V / 1048576 / 64 % 1099511627776 < 1099511627776 := by omega
  have b1 : 0 ≤ U % 1048576 ∧ U % 1048576 < 1048576 := by omega
  have b2 : 0 ≤ V % 1048576 ∧ V % 1048576 < 1048576 := by omega
  have b3 : 0 ≤ V / 1048576 % 64 ∧ V / 1048576 % 64 < 64 := by omega
  go_enter Tryd.func14, Tryd.ntmps14
  go_wp2_with fail
  generalize ha : U / 1048576 % 1099511627776 = a at *
  generalize hb : U % 1048576 = b at *
  generalize hc : V / 1048576 / 64 % 1099511627776 = c at *
  generalize hd : V / 1048576 % 64 = d at *
  generalize he : V % 1048576 = e_ at *
  unfold vA unB vC unD unE at HMT
  rw [ha, hb, hc, hd, he] at HMT
  have HQ := Lib.hid (And.intro ha (And.intro hb (And.intro hc (And.intro hd he))))
  clear ha hb hc hd he
  have z0 := z 0 (by omega)
  have z1 := z 1 (by omega)
  have z2 := z 2 (by omega)
  have z3 := z 3 (by omega)
  have z4 := z 4 (by omega)
  generalize ((w.alloc (.cells #[.int .u64 U, .int .u64 V] 25)).alloc (.cells #[.int .i64 0, .int .i64 0, .int .i64 0, .int .i64 0, .int .i64 0] 23)) = W2 at *
  have al := (Below.refl W2.heap.size W2).alloc (Nat.le_refl _) (.cells #[.int .i64 a, .int .i64 b, .int .i64 c, .int .i64 d, .int .i64 e_] 23)
  have t := cells_five W2 (.int .i64 a) (.int .i64 b) (.int .i64 c) (.int .i64 d) (.int .i64 e_) 23
  have t0 := t 0 (by omega)
  have t1 := t 1 (by omega)
  have t2 := t 2 (by omega)
  have t3 := t 3 (by omega)
  have t4 := t 4 (by omega)
  rw [hz2] at t0 t1 t2 t3 t4
  have B3 := below_step B2 al
  have p0 := cell_step al p0
  have p1 := cell_step al p1
  have f0 := frozen_step al z0 (zf 0)
  have f1 := frozen_step al z1 (zf 1)
  have f2 := frozen_step al z2 (zf 2)
  have f3 := frozen_step al z3 (zf 3)
  have f4 := frozen_step al z4 (zf 4)
  have z0 := cell_step al z0
  have z1 := cell_step al z1
  have z2 := cell_step al z2
  have z3 := cell_step al z3
  have z4 := cell_step al z4
  generalize W2.alloc (.cells #[.int .i64 a, .int .i64 b, .int .i64 c, .int .i64 d, .int .i64 e_] 23) = W3 at *
  clear t z zf al
  have HRR := Lib.hid (fun W => refRight_any a b c d e_ W)
  have bd := (Below.refl W3.heap.size W3).drew
  refine wp_region_held_drew (S := fun w' => w'.cell? ⟨w.heap.size, 0, none⟩ = some (.int .u64 U) ∧ w'.cell? ⟨w.heap.size, 1, none⟩ = some (.int .u64 V) ∧ w'.cell? ⟨w.heap.size + 2, 0, none⟩ = some (.int .i64 a) ∧ w'.cell? ⟨w.heap.size + 2, 1, none⟩ = some (.int .i64 b) ∧ w'.cell? ⟨w.heap.size + 2, 2, none⟩ = some (.int .i64 c) ∧ w'.cell? ⟨w.heap.size + 2, 3, none⟩ = some (.int .i64 d) ∧ w'.cell? ⟨w.heap.size + 2, 4, none⟩ = some (.int .i64 e_) ∧ Below W3.heap.size W3 w') (by kernel_rfl) ?_ (fun hHeld => ?_)
  · exact ⟨cell_step bd p0, cell_step bd p1, cell_step bd t0, cell_step bd t1, cell_step bd t2, cell_step bd t3, cell_step bd t4, bd⟩
  cases hr : rightB a b c d e_
  · rw [hr] at HRR HMT
    have hno := HMT.out.1 rfl
    refine wpAnyH_take (i := 0) (v := ?v1) rfl (by kernel_rfl) (by kernel_rfl) (by kernel_rfl) (fun _ _ _ h => h) (Or.inl ⟨by rfl, ?hy1⟩) (by assumption) ?rest1
    case hy1 => (intro w hSw; (try dsimp only at hSw); go_simp; (first | done | with_reducible rfl))
    simp only [Act.put, List.setIfInBounds_toArray, List.set_cons_zero, List.set_cons_succ, List.getElem_toArray, List.getElem_cons_zero]
    refine wpAnyH_ready (rs := [1]) (by kernel_rfl) (by simp) ?_
    refine AllReadyH.cons rfl (fun K hK => ?_) AllReadyH.nil
    simp only [List.getElem_toArray, List.getElem_cons_zero, List.getElem_cons_succ]
    go_simp
    go_at_call 9
    obtain ⟨g0, g1, g2, g3, g4, g5, g6, g7⟩ := hHeld
    refine (HRR.out _).mono ?_
    rintro e w4 ⟨rfl, b4⟩
    have x4 := below_step g7 b4
    go_wp2_with fail
    refine hK.out _ _ ⟨cell_step b4 g0, cell_step b4 g1, cell_step b4 g2, cell_step b4 g3, cell_step b4 g4, cell_step b4 g5, cell_step b4 g6, x4⟩ (fun hHeld => ?_)
    clear hK K g0 g1 g2 g3 g4 g5 g6 g7
    try simp only [Act.put, List.setIfInBounds_toArray, List.set_cons_zero, List.set_cons_succ, List.getElem_toArray, List.getElem_cons_zero, List.getElem_cons_succ]
    refine wpAnyH_take (i := 2) (v := ?v2) rfl (by kernel_rfl) (by kernel_rfl) (by kernel_rfl) (fun _ _ _ h => h) (Or.inl ⟨by rfl, ?hy2⟩) (by assumption) ?rest2
    case hy2 => (intro w hSw; (try dsimp only at hSw); go_simp; (first | done | with_reducible rfl))
    simp only [Act.put, List.setIfInBounds_toArray, List.set_cons_zero, List.set_cons_succ, List.getElem_toArray, List.getElem_cons_zero, List.getElem_cons_succ]
    refine wpAnyH_take (i := 3) (v := ?v3) rfl (by kernel_rfl) (by kernel_rfl) (by kernel_rfl) (fun _ _ _ h => h) (Or.inl ⟨by rfl, ?hy3⟩) (by assumption) ?rest3
    case hy3 => (intro w hSw; (try dsimp only at hSw); go_simp; (first | done | with_reducible rfl))
    simp only [Act.put, List.setIfInBounds_toArray, List.set_cons_zero, List.set_cons_succ, List.getElem_toArray, List.getElem_cons_zero, List.getElem_cons_succ]
    refine wpAnyH_take (i := 4) (v := undef) rfl (by kernel_rfl) (by kernel_rfl) (by kernel_rfl) (fun _ _ _ h => h) (Or.inr ⟨by rfl, rfl⟩) (by assumption) ?rest4
    simp only [Act.put, List.setIfInBounds_toArray, List.set_cons_zero, List.set_cons_succ, List.getElem_toArray, List.getElem_cons_zero, List.getElem_cons_succ]
    refine wpAnyH_take (i := 5) (v := undef) rfl (by kernel_rfl) (by kernel_rfl) (by kernel_rfl) (fun _ _ _ h => h) (Or.inr ⟨by rfl, rfl⟩) (by assumption) ?rest5
    simp only [Act.put, List.setIfInBounds_toArray, List.set_cons_zero, List.set_cons_succ, List.getElem_toArray, List.getElem_cons_zero, List.getElem_cons_succ]
    refine wpAnyH_take (i := 6) (v := undef) rfl (by kernel_rfl) (by kernel_rfl) (by kernel_rfl) (fun _ _ _ h => h) (Or.inr ⟨by rfl, rfl⟩) (by assumption) ?rest6
    simp only [Act.put, List.setIfInBounds_toArray, List.set_cons_zero, List.set_cons_succ, List.getElem_toArray, List.getElem_cons_zero, List.getElem_cons_succ]
    refine wpAnyH_take (i := 7) (v := undef) rfl (by kernel_rfl) (by kernel_rfl) (by kernel_rfl) (fun _ _ _ h => h) (Or.inr ⟨by rfl, rfl⟩) (by assumption) ?rest7
    simp only [Act.put, List.setIfInBounds_toArray, List.set_cons_zero, List.set_cons_succ, List.getElem_toArray, List.getElem_cons_zero, List.getElem_cons_succ]
    refine wpAnyH_take (i := 8) (v := ?v8) rfl (by kernel_rfl) (by kernel_rfl) (by kernel_rfl) (fun _ _ _ h => h) (Or.inl ⟨by rfl, ?hy8⟩) (by assumption) ?rest8
    case hy8 => (intro w hSw; (try dsimp only at hSw); go_simp; (first | done | with_reducible rfl))
    simp only [Act.put, List.setIfInBounds_toArray, List.set_cons_zero, List.set_cons_succ, List.getElem_toArray, List.getElem_cons_zero, List.getElem_cons_succ]
    refine wpAnyH_done (by kernel_rfl) ?_ _
    clear hHeld
    have B4 := B3.trans (x4.mono B3.size)
    have ff0 := frozen_step x4 z0 f0
    have ff1 := frozen_step x4 z1 f1
    have ff2 := frozen_step x4 z2 f2
    have ff3 := frozen_step x4 z3 f3
    have ff4 := frozen_step x4 z4 f4
    have z0 := cell_step x4 z0
    have z1 := cell_step x4 z1
    have z2 := cell_step x4 z2
    have z3 := cell_step x4 z3
    have z4 := cell_step x4 z4
    have ST := Lib.hid (stored5 (.int .i64 0) (.int .i64 0) (.int .i64 0) (.int .i64 0) (.int .i64 0) z0 z1 z2 z3 z4)
    go_wp2_with fail
    obtain ⟨s0, s1, s2, s3, s4, sb⟩ := ST.out
    (try simp only [Exit.inBlock, Exit.then])
    refine bodyPost_ret (v := .tuple #[.agg #[.int .i64 0, .int .i64 0, .int .i64 0, .int .i64 0, .int .i64 0], .bool false]) (by simp [results, Tryd.results14, s0, s1, s2, s3, s4, go_sem]) rfl ?_
    unfold UnpackIs unB unD unE
    rw [HQ.out.2.1, HQ.out.2.2.2.1, HQ.out.2.2.2.2, hno]
    exact ⟨rfl, B4.trans (sb.mono (by omega))⟩
  · rw [hr] at HRR HMT
    have hye := HMT.out.2.1 rfl
    have hsm := Lib.hid HMT.out.2.2
    have hT := right_is hr
    have HRP := Lib.hid (fun W => refPack_any a b c d e_ hT W)
    have hne := fun W => neq_pair (packU a b) (packV c d e_) U V W
    have heq2 := fun W => equalIn_pair (packU a b) (packV c d e_) U V W
    generalize packU a b = PU at *
    generalize packV c d e_ = PV at *
    clear hT
    cases hE : ([PU, PV] == [U, V])
    · rw [hE] at hye hne heq2
      simp only [Bool.not_false] at hne
      have HYE := Lib.hid hye
      clear hE hye
      refine wpAnyH_take (i := 0) (v := ?v9) rfl (by kernel_rfl) (by kernel_rfl) (by kernel_rfl) (fun _ _ _ h => h) (Or.inl ⟨by rfl, ?hy9⟩) (by assumption) ?rest9
      case hy9 => (intro w hSw; (try dsimp only at hSw); go_simp; (first | done | with_reducible rfl))
      simp only [Act.put, List.setIfInBounds_toArray, List.set_cons_zero, List.set_cons_succ, List.getElem_toArray, List.getElem_cons_zero]
      refine wpAnyH_ready (rs := [1]) (by kernel_rfl) (by simp) ?_
      refine AllReadyH.cons rfl (fun K hK => ?_) AllReadyH.nil
      simp only [List.getElem_toArray, List.getElem_cons_zero, List.getElem_cons_succ]
      go_simp
      go_at_call 9
      obtain ⟨g0, g1, g2, g3, g4, g5, g6, g7⟩ := hHeld
      refine (HRR.out _).mono ?_
      rintro e w4 ⟨rfl, b4⟩
      have x4 := below_step g7 b4
      go_wp2_with fail
      refine hK.out _ _ ⟨cell_step b4 g0, cell_step b4 g1, cell_step b4 g2, cell_step b4 g3, cell_step b4 g4, cell_step b4 g5, cell_step b4 g6, x4⟩ (fun hHeld => ?_)
      clear hK K g0 g1 g2 g3 g4 g5 g6 g7
      try simp only [Act.put, List.setIfInBounds_toArray, List.set_cons_zero, List.set_cons_succ, List.getElem_toArray, List.getElem_cons_zero, List.getElem_cons_succ]
      refine wpAnyH_take (i := 2) (v := ?v10) rfl (by kernel_rfl) (by kernel_rfl) (by kernel_rfl) (fun _ _ _ h => h) (Or.inl ⟨by rfl, ?hy10⟩) (by assumption) ?rest10
      case hy10 => (intro w hSw; (try dsimp only at hSw); go_simp; (first | done | with_reducible rfl))
      simp only [Act.put, List.setIfInBounds_toArray, List.set_cons_zero, List.set_cons_succ, List.getElem_toArray, List.getElem_cons_zero, List.getElem_cons_succ]
      refine wpAnyH_take (i := 3) (v := ?v11) rfl (by kernel_rfl) (by kernel_rfl) (by kernel_rfl) (fun _ _ _ h => h) (Or.inl ⟨by rfl, ?hy11⟩) (by assumption) ?rest11
      case hy11 => (intro w hSw; (try dsimp only at hSw); go_simp; (first | done | with_reducible rfl))
      simp only [Act.put, List.setIfInBounds_toArray, List.set_cons_zero, List.set_cons_succ, List.getElem_toArray, List.getElem_cons_zero, List.getElem_cons_succ]
      refine wpAnyH_take (i := 4) (v := ?v12) rfl (by kernel_rfl) (by kernel_rfl) (by kernel_rfl) (fun _ _ _ h => h) (Or.inl ⟨by rfl, ?hy12⟩) (by assumption) ?rest12
      case hy12 => (intro w hSw; (try dsimp only at hSw); go_simp; (first | done | with_reducible rfl))
      simp only [Act.put, List.setIfInBounds_toArray, List.set_cons_zero, List.set_cons_succ, List.getElem_toArray, List.getElem_cons_zero, List.getElem_cons_succ]
      refine wpAnyH_take (i := 6) (v := ?v13) rfl (by kernel_rfl) (by kernel_rfl) (by kernel_rfl) (fun _ _ _ h => h) (Or.inl ⟨by rfl, ?hy13⟩) (by assumption) ?rest13
      case hy13 => (intro w hSw; (try dsimp only at hSw); go_simp; (first | done | with_reducible rfl))
      simp only [Act.put, List.setIfInBounds_toArray, List.set_cons_zero, List.set_cons_succ, List.getElem_toArray, List.getElem_cons_zero, List.getElem_cons_succ]
      refine wpAnyH_ready (rs := [5]) (by kernel_rfl) (by simp) ?_
      refine AllReadyH.cons rfl (fun K hK => ?_) AllReadyH.nil
      simp only [List.getElem_toArray, List.getElem_cons_zero, List.getElem_cons_succ]
      go_simp
      go_at_call 13
      obtain ⟨g0, g1, g2, g3, g4, g5, g6, g7⟩ := hHeld
      refine (HRP.out _).mono ?_
      rintro e w5 ⟨rfl, b5⟩
      have x5 := below_step g7 b5
      go_wp2_with fail
      refine hK.out _ _ ⟨cell_step b5 g0, cell_step b5 g1, cell_step b5 g2, cell_step b5 g3, cell_step b5 g4, cell_step b5 g5, cell_step b5 g6, x5⟩ (fun hHeld => ?_)
      clear hK K g0 g1 g2 g3 g4 g5 g6 g7
      try simp only [Act.put, List.setIfInBounds_toArray, List.set_cons_zero, List.set_cons_succ, List.getElem_toArray, List.getElem_cons_zero, List.getElem_cons_succ]
      refine wpAnyH_take (i := 7) (v := ?v14) rfl (by kernel_rfl) (by kernel_rfl) (by kernel_rfl) (fun _ _ _ h => h) (Or.inl ⟨by rfl, ?hy14⟩) (by assumption) ?rest14
      case hy14 => (intro w hSw; (try dsimp only at hSw); go_simp; (first | done | with_reducible rfl))
      simp only [Act.put, List.setIfInBounds_toArray, List.set_cons_zero, List.set_cons_succ, List.getElem_toArray, List.getElem_cons_zero, List.getElem_cons_succ]
      refine wpAnyH_take (i := 8) (v := ?v15) rfl (by kernel_rfl) (by kernel_rfl) (by kernel_rfl) (fun _ _ _ h => h) (Or.inl ⟨by rfl, ?hy15⟩) (by assumption) ?rest15
      case hy15 => (intro w hSw; (try dsimp only at hSw); go_simp; (first | done | with_reducible rfl))
      simp only [Act.put, List.setIfInBounds_toArray, List.set_cons_zero, List.set_cons_succ, List.getElem_toArray, List.getElem_cons_zero, List.getElem_cons_succ]
      refine wpAnyH_done (by kernel_rfl) ?_ _
      obtain ⟨g0, g1, g2, g3, g4, g5, g6, g7⟩ := hHeld
      have B4 := B3.trans (x5.mono B3.size)
      have ff0 := frozen_step x5 z0 f0
      have ff1 := frozen_step x5 z1 f1
      have ff2 := frozen_step x5 z2 f2
      have ff3 := frozen_step x5 z3 f3
      have ff4 := frozen_step x5 z4 f4
      have k0 := cell_step x5 t0
      have k1 := cell_step x5 t1
      have k2 := cell_step x5 t2
      have k3 := cell_step x5 t3
      have k4 := cell_step x5 t4
      have z0 := cell_step x5 z0
      have z1 := cell_step x5 z1
      have z2 := cell_step x5 z2
      have z3 := cell_step x5 z3
      have z4 := cell_step x5 z4
      clear g0 g1 g2 g3 g4 g5 g6 g7
      have ST := Lib.hid (stored5 (.int .i64 0) (.int .i64 0) (.int .i64 0) (.int .i64 0) (.int .i64 0) z0 z1 z2 z3 z4)
      go_wp2_with fail
      obtain ⟨s0, s1, s2, s3, s4, sb⟩ := ST.out
      (try simp only [Exit.inBlock, Exit.then])
      refine bodyPost_ret (v := .tuple #[.agg #[.int .i64 0, .int .i64 0, .int .i64 0, .int .i64 0, .int .i64 0], .bool false]) (by simp [results, Tryd.results14, s0, s1, s2, s3, s4, go_sem]) rfl ?_
      unfold UnpackIs unB unD unE
      rw [HQ.out.2.1, HQ.out.2.2.2.1, HQ.out.2.2.2.2, ← HYE.out]
      exact ⟨rfl, B4.trans (sb.mono (by omega))⟩
    · rw [hE] at hye hne heq2
      simp only [Bool.not_true] at hne
      have HYE := Lib.hid hye
      have HAC := Lib.hid (hsm.out hye.symm)
      clear hE hye
      refine wpAnyH_take (i := 0) (v := ?v16) rfl (by kernel_rfl) (by kernel_rfl) (by kernel_rfl) (fun _ _ _ h => h) (Or.inl ⟨by rfl, ?hy16⟩) (by assumption) ?rest16
      case hy16 => (intro w hSw; (try dsimp only at hSw); go_simp; (first | done | with_reducible rfl))
      simp only [Act.put, List.setIfInBounds_toArray, List.set_cons_zero, List.set_cons_succ, List.getElem_toArray, List.getElem_cons_zero]
      refine wpAnyH_ready (rs := [1]) (by kernel_rfl) (by simp) ?_
      refine AllReadyH.cons rfl (fun K hK => ?_) AllReadyH.nil
      simp only [List.getElem_toArray, List.getElem_cons_zero, List.getElem_cons_succ]
      go_simp
      go_at_call 9
      obtain ⟨g0, g1, g2, g3, g4, g5, g6, g7⟩ := hHeld
      refine (HRR.out _).mono ?_
      rintro e w4 ⟨rfl, b4⟩
      have x4 := below_step g7 b4
      go_wp2_with fail
      refine hK.out _ _ ⟨cell_step b4 g0, cell_step b4 g1, cell_step b4 g2, cell_step b4 g3, cell_step b4 g4, cell_step b4 g5, cell_step b4 g6, x4⟩ (fun hHeld => ?_)
      clear hK K g0 g1 g2 g3 g4 g5 g6 g7
      try simp only [Act.put, List.setIfInBounds_toArray, List.set_cons_zero, List.set_cons_succ, List.getElem_toArray, List.getElem_cons_zero, List.getElem_cons_succ]
      refine wpAnyH_take (i := 2) (v := ?v17) rfl (by kernel_rfl) (by kernel_rfl) (by kernel_rfl) (fun _ _ _ h => h) (Or.inl ⟨by rfl, ?hy17⟩) (by assumption) ?rest17
      case hy17 => (intro w hSw; (try dsimp only at hSw); go_simp; (first | done | with_reducible rfl))
      simp only [Act.put, List.setIfInBounds_toArray, List.set_cons_zero, List.set_cons_succ, List.getElem_toArray, List.getElem_cons_zero, List.getElem_cons_succ]
      refine wpAnyH_take (i := 3) (v := ?v18) rfl (by kernel_rfl) (by kernel_rfl) (by kernel_rfl) (fun _ _ _ h => h) (Or.inl ⟨by rfl, ?hy18⟩) (by assumption) ?rest18
      case hy18 => (intro w hSw; (try dsimp only at hSw); go_simp; (first | done | with_reducible rfl))
      simp only [Act.put, List.setIfInBounds_toArray, List.set_cons_zero, List.set_cons_succ, List.getElem_toArray, List.getElem_cons_zero, List.getElem_cons_succ]
      refine wpAnyH_take (i := 4) (v := ?v19) rfl (by kernel_rfl) (by kernel_rfl) (by kernel_rfl) (fun _ _ _ h => h) (Or.inl ⟨by rfl, ?hy19⟩) (by assumption) ?rest19
      case hy19 => (intro w hSw; (try dsimp only at hSw); go_simp; (first | done | with_reducible rfl))
      simp only [Act.put, List.setIfInBounds_toArray, List.set_cons_zero, List.set_cons_succ, List.getElem_toArray, List.getElem_cons_zero, List.getElem_cons_succ]
      refine wpAnyH_take (i := 6) (v := ?v20) rfl (by kernel_rfl) (by kernel_rfl) (by kernel_rfl) (fun _ _ _ h => h) (Or.inl ⟨by rfl, ?hy20⟩) (by assumption) ?rest20
      case hy20 => (intro w hSw; (try dsimp only at hSw); go_simp; (first | done | with_reducible rfl))
      simp only [Act.put, List.setIfInBounds_toArray, List.set_cons_zero, List.set_cons_succ, List.getElem_toArray, List.getElem_cons_zero, List.getElem_cons_succ]
      refine wpAnyH_ready (rs := [5]) (by kernel_rfl) (by simp) ?_
      refine AllReadyH.cons rfl (fun K hK => ?_) AllReadyH.nil
      simp only [List.getElem_toArray, List.getElem_cons_zero, List.getElem_cons_succ]
      go_simp
      go_at_call 13
      obtain ⟨g0, g1, g2, g3, g4, g5, g6, g7⟩ := hHeld
      refine (HRP.out _).mono ?_
      rintro e w5 ⟨rfl, b5⟩
      have x5 := below_step g7 b5
      go_wp2_with fail
      refine hK.out _ _ ⟨cell_step b5 g0, cell_step b5 g1, cell_step b5 g2, cell_step b5 g3, cell_step b5 g4, cell_step b5 g5, cell_step b5 g6, x5⟩ (fun hHeld => ?_)
      clear hK K g0 g1 g2 g3 g4 g5 g6 g7
      try simp only [Act.put, List.setIfInBounds_toArray, List.set_cons_zero, List.set_cons_succ, List.getElem_toArray, List.getElem_cons_zero, List.getElem_cons_succ]
      refine wpAnyH_take (i := 7) (v := ?v21) rfl (by kernel_rfl) (by kernel_rfl) (by kernel_rfl) (fun _ _ _ h => h) (Or.inl ⟨by rfl, ?hy21⟩) (by assumption) ?rest21
      case hy21 => (intro w hSw; (try dsimp only at hSw); go_simp; (first | done | with_reducible rfl))
      simp only [Act.put, List.setIfInBounds_toArray, List.set_cons_zero, List.set_cons_succ, List.getElem_toArray, List.getElem_cons_zero, List.getElem_cons_succ]
      refine wpAnyH_take (i := 8) (v := ?v22) rfl (by kernel_rfl) (by kernel_rfl) (by kernel_rfl) (fun _ _ _ h => h) (Or.inl ⟨by rfl, ?hy22⟩) (by assumption) ?rest22
      case hy22 => (intro w hSw; (try dsimp only at hSw); go_simp; (first | done | with_reducible rfl))
      simp only [Act.put, List.setIfInBounds_toArray, List.set_cons_zero, List.set_cons_succ, List.getElem_toArray, List.getElem_cons_zero, List.getElem_cons_succ]
      refine wpAnyH_done (by kernel_rfl) ?_ _
      obtain ⟨g0, g1, g2, g3, g4, g5, g6, g7⟩ := hHeld
      have B4 := B3.trans (x5.mono B3.size)
      have ff0 := frozen_step x5 z0 f0
      have ff1 := frozen_step x5 z1 f1
      have ff2 := frozen_step x5 z2 f2
      have ff3 := frozen_step x5 z3 f3
      have ff4 := frozen_step x5 z4 f4
      have k0 := cell_step x5 t0
      have k1 := cell_step x5 t1
      have k2 := cell_step x5 t2
      have k3 := cell_step x5 t3
      have k4 := cell_step x5 t4
      have z0 := cell_step x5 z0
      have z1 := cell_step x5 z1
      have z2 := cell_step x5 z2
      have z3 := cell_step x5 z3
      have z4 := cell_step x5 z4
      clear g0 g1 g2 g3 g4 g5 g6 g7
      have ST := Lib.hid (stored5 (.int .i64 a) (.int .i64 b) (.int .i64 c) (.int .i64 d) (.int .i64 e_) z0 z1 z2 z3 z4)
      go_wp2_with fail
      obtain ⟨s0, s1, s2, s3, s4, sb⟩ := ST.out
      (try simp only [Exit.inBlock, Exit.then])
      refine bodyPost_ret (v := .tuple #[.agg #[.int .i64 a, .int .i64 b, .int .i64 c, .int .i64 d, .int .i64 e_], .bool true]) (by simp [results, Tryd.results14, s0, s1, s2, s3, s4, go_sem]) rfl ?_
      unfold UnpackIs unB unD unE
      rw [HQ.out.2.1, HQ.out.2.2.2.1, HQ.out.2.2.2.2, ← HYE.out, ← HAC.out.1, ← HAC.out.2]
      exact ⟨rfl, B4.trans (sb.mono (by omega))⟩
end Go.Proofs.YtffgcloacdpfaaaDoor
