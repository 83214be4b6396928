/- The walk of TagUnpacks. -/
import Derived.Test.YtffgcloacdpfaaaDoorTagV
namespace Go.Proofs.YtffgcloacdpfaaaDoor
open Go.RowKit
set_option linter.unusedVariables false
theorem pack_un {U V : Int} (h1 : 0 ≤ U) (h3 : 0 ≤ V) : packU (unA U) (unB U) = U ∧ packV (unC V) (unD V) (unE V) = V := by
  unfold packU packV unA unB unC unD unE
  omega
set_option maxHeartbeats 2000000 in
theorem walk_unpacks_no (U V : Int) (h1 : 0 ≤ U) (h2 : U < 18446744073709551616) (h3 : 0 ≤ V) (h4 : V < 18446744073709551616) (w : World) (hr : rightB (unA U) (unB U) (unC V) (unD V) (unE V) = false) :
    Calls Tryd.prog 4 #[.int .u64 U, .int .u64 V] w fun e w' => e = .returned (.bool true) ∧ Below w.heap.size w w' := by
  have HU := Lib.hid (fun W => (show Calls Tryd.prog 12 #[.agg #[.int .u64 U, .int .u64 V]] W (fun e w' => e = .returned (.tuple #[.agg #[.int .i64 0, .int .i64 0, .int .i64 0, .int .i64 0, .int .i64 0], .bool false]) ∧ Below W.heap.size W w') from by
    refine (unpack_any U V h1 h2 h3 h4 W).mono ?_
    intro e w' h
    unfold UnpackIs at h
    rw [hr, if_neg (by simp)] at h
    exact h))
  have HW := Lib.hid (fun W => (show Calls Tryd.prog 14 #[.agg #[.int .u64 U, .int .u64 V]] W (fun e w' => e = .returned (.tuple #[.agg #[.int .i64 0, .int .i64 0, .int .i64 0, .int .i64 0, .int .i64 0], .bool false]) ∧ Below W.heap.size W w') from by
    refine (refUnpack_any U V h1 h2 h3 h4 W).mono ?_
    intro e w' h
    unfold UnpackIs at h
    rw [hr, if_neg (by simp)] at h
    exact h))
  have hz : rightB 0 0 0 0 0 = true := by unfold rightB tagXs tagMs; decide
  have HP := Lib.hid (fun W => pack_yes 0 0 0 0 0 (right_is hz) hz W)
  rw [show packU 0 0 = 0 from rfl, show packV 0 0 0 = 0 from rfl] at HP
  clear hr hz
  go_enter Tryd.func4, Tryd.ntmps4
  go_wp2_with fail
  refine (HU.out _).mono ?_
  rintro e w1 ⟨rfl, b1⟩
  have t := cells_five w1 (.int .i64 0) (.int .i64 0) (.int .i64 0) (.int .i64 0) (.int .i64 0) 23
  have al1 := (Below.refl w1.heap.size w1).alloc (Nat.le_refl _) (.cells #[.int .i64 0, .int .i64 0, .int .i64 0, .int .i64 0, .int .i64 0] 23)
  have t0 := t 0 (by omega)
  have t1 := t 1 (by omega)
  have t2 := t 2 (by omega)
  have t3 := t 3 (by omega)
  have t4 := t 4 (by omega)
  have B1 := below_step b1 al1
  clear t al1
  go_wp2_with fail
  generalize w1.alloc (.cells #[.int .i64 0, .int .i64 0, .int .i64 0, .int .i64 0, .int .i64 0] 23) = W1 at *
  refine (HW.out _).mono ?_
  rintro e w2 ⟨rfl, b2⟩
  have u := cells_five w2 (.int .i64 0) (.int .i64 0) (.int .i64 0) (.int .i64 0) (.int .i64 0) 23
  have al2 := (Below.refl w2.heap.size w2).alloc (Nat.le_refl _) (.cells #[.int .i64 0, .int .i64 0, .int .i64 0, .int .i64 0, .int .i64 0] 23)
  have x2 := below_step b2 al2
  have t0 := cell_step x2 t0
  have t1 := cell_step x2 t1
  have t2 := cell_step x2 t2
  have t3 := cell_step x2 t3
  have t4 := cell_step x2 t4
  have u0 := u 0 (by omega)
  have u1 := u 1 (by omega)
  have u2 := u 2 (by omega)
  have u3 := u 3 (by omega)
  have u4 := u 4 (by omega)
  have B2 := below_step B1 x2
  clear u al2 x2 b2 b1 B1
  go_wp2_with fail
  generalize w2.alloc (.cells #[.int .i64 0, .int .i64 0, .int .i64 0, .int .i64 0, .int .i64 0] 23) = W2 at *
  refine (HP.out _).mono ?_
  rintro e w3 ⟨rfl, b3⟩
  have p01 := cells_two w3 (.int .u64 0) (.int .u64 0) 25
  have al3 := (Below.refl w3.heap.size w3).alloc (Nat.le_refl _) (.cells #[.int .u64 0, .int .u64 0] 25)
  have x3 := below_step b3 al3
  have t0 := cell_step x3 t0
  have t1 := cell_step x3 t1
  have t2 := cell_step x3 t2
  have t3 := cell_step x3 t3
  have t4 := cell_step x3 t4
  have u0 := cell_step x3 u0
  have u1 := cell_step x3 u1
  have u2 := cell_step x3 u2
  have u3 := cell_step x3 u3
  have u4 := cell_step x3 u4
  obtain ⟨p0, p1⟩ := p01
  have B3 := below_step B2 x3
  clear al3 x3 b3 B2
  go_wp2_with fail
  generalize w3.alloc (.cells #[.int .u64 0, .int .u64 0] 25) = W3 at *
  refine (alive_any _).mono ?_
  rintro e w4 ⟨rfl, b4⟩
  have t0 := cell_step b4 t0
  have t1 := cell_step b4 t1
  have t2 := cell_step b4 t2
  have t3 := cell_step b4 t3
  have t4 := cell_step b4 t4
  have u0 := cell_step b4 u0
  have u1 := cell_step b4 u1
  have u2 := cell_step b4 u2
  have u3 := cell_step b4 u3
  have u4 := cell_step b4 u4
  have p0 := cell_step b4 p0
  have p1 := cell_step b4 p1
  have B4 := below_step B3 b4
  clear b4 B3
  go_wp2_with fail
  go_ret
  exact ⟨rfl, B4⟩
set_option maxHeartbeats 2000000 in
theorem walk_unpacks_yes (U V : Int) (h1 : 0 ≤ U) (h2 : U < 18446744073709551616) (h3 : 0 ≤ V) (h4 : V < 18446744073709551616) (w : World) (hr : rightB (unA U) (unB U) (unC V) (unD V) (unE V) = true) :
    Calls Tryd.prog 4 #[.int .u64 U, .int .u64 V] w fun e w' => e = .returned (.bool true) ∧ Below w.heap.size w w' := by
  have hT := right_is hr
  have hpu := pack_un h1 h3
  have heq := fun W => eql_two U V W
  have heq2 := fun W => equalIn_two U V W
  obtain ⟨a, ha⟩ : ∃ a, a = unA U := ⟨_, rfl⟩
  obtain ⟨b, hb⟩ : ∃ b, b = unB U := ⟨_, rfl⟩
  obtain ⟨c, hc⟩ : ∃ c, c = unC V := ⟨_, rfl⟩
  obtain ⟨d, hd⟩ : ∃ d, d = unD V := ⟨_, rfl⟩
  obtain ⟨e_, he⟩ : ∃ e_, e_ = unE V := ⟨_, rfl⟩
  have HU := Lib.hid (fun W => (show Calls Tryd.prog 12 #[.agg #[.int .u64 U, .int .u64 V]] W (fun e w' => e = .returned (.tuple #[.agg #[.int .i64 a, .int .i64 b, .int .i64 c, .int .i64 d, .int .i64 e_], .bool true]) ∧ Below W.heap.size W w') from by
    refine (unpack_any U V h1 h2 h3 h4 W).mono ?_
    intro e w' h
    unfold UnpackIs at h
    rw [hr, if_pos rfl, ← ha, ← hb, ← hc, ← hd, ← he] at h
    exact h))
  have HW := Lib.hid (fun W => (show Calls Tryd.prog 14 #[.agg #[.int .u64 U, .int .u64 V]] W (fun e w' => e = .returned (.tuple #[.agg #[.int .i64 a, .int .i64 b, .int .i64 c, .int .i64 d, .int .i64 e_], .bool true]) ∧ Below W.heap.size W w') from by
    refine (refUnpack_any U V h1 h2 h3 h4 W).mono ?_
    intro e w' h
    unfold UnpackIs at h
    rw [hr, if_pos rfl, ← ha, ← hb, ← hc, ← hd, ← he] at h
    exact h))
  rw [← ha, ← hb, ← hc, ← hd, ← he] at hr hT hpu
  have HP := Lib.hid (fun W => pack_yes a b c d e_ hT hr W)
  rw [hpu.1, hpu.2] at HP
  clear hT hpu ha hb hc hd he hr
  go_enter Tryd.func4, Tryd.ntmps4
  go_wp2_with fail
  refine (HU.out _).mono ?_
  rintro e w1 ⟨rfl, b1⟩
  have t := cells_five w1 (.int .i64 a) (.int .i64 b) (.int .i64 c) (.int .i64 d) (.int .i64 e_) 23
  have al1 := (Below.refl w1.heap.size w1).alloc (Nat.le_refl _) (.cells #[.int .i64 a, .int .i64 b, .int .i64 c, .int .i64 d, .int .i64 e_] 23)
  have t0 := t 0 (by omega)
  have t1 := t 1 (by omega)
  have t2 := t 2 (by omega)
  have t3 := t 3 (by omega)
  have t4 := t 4 (by omega)
  have B1 := below_step b1 al1
  clear t al1
  go_wp2_with fail
  generalize w1.alloc (.cells #[.int .i64 a, .int .i64 b, .int .i64 c, .int .i64 d, .int .i64 e_] 23) = W1 at *
  refine (HW.out _).mono ?_
  rintro e w2 ⟨rfl, b2⟩
  have u := cells_five w2 (.int .i64 a) (.int .i64 b) (.int .i64 c) (.int .i64 d) (.int .i64 e_) 23
  have al2 := (Below.refl w2.heap.size w2).alloc (Nat.le_refl _) (.cells #[.int .i64 a, .int .i64 b, .int .i64 c, .int .i64 d, .int .i64 e_] 23)
  have x2 := below_step b2 al2
  have t0 := cell_step x2 t0
  have t1 := cell_step x2 t1
  have t2 := cell_step x2 t2
  have t3 := cell_step x2 t3
  have t4 := cell_step x2 t4
  have u0 := u 0 (by omega)
  have u1 := u 1 (by omega)
  have u2 := u 2 (by omega)
  have u3 := u 3 (by omega)
  have u4 := u 4 (by omega)
  have B2 := below_step B1 x2
  clear u al2 x2 b2 b1 B1
  go_wp2_with fail
  generalize w2.alloc (.cells #[.int .i64 a, .int .i64 b, .int .i64 c, .int .i64 d, .int .i64 e_] 23) = W2 at *
  refine (HP.out _).mono ?_
  rintro e w3 ⟨rfl, b3⟩
  have p01 := cells_two w3 (.int .u64 U) (.int .u64 V) 25
  have al3 := (Below.refl w3.heap.size w3).alloc (Nat.le_refl _) (.cells #[.int .u64 U, .int .u64 V] 25)
  have x3 := below_step b3 al3
  have t0 := cell_step x3 t0
  have t1 := cell_step x3 t1
  have t2 := cell_step x3 t2
  have t3 := cell_step x3 t3
  have t4 := cell_step x3 t4
  have u0 := cell_step x3 u0
  have u1 := cell_step x3 u1
  have u2 := cell_step x3 u2
  have u3 := cell_step x3 u3
  have u4 := cell_step x3 u4
  obtain ⟨p0, p1⟩ := p01
  have B3 := below_step B2 x3
  clear al3 x3 b3 B2
  go_wp2_with fail
  generalize w3.alloc (.cells #[.int .u64 U, .int .u64 V] 25) = W3 at *
  refine (alive_any _).mono ?_
  rintro e w4 ⟨rfl, b4⟩
  have t0 := cell_step b4 t0
  have t1 := cell_step b4 t1
  have t2 := cell_step b4 t2
  have t3 := cell_step b4 t3
  have t4 := cell_step b4 t4
  have u0 := cell_step b4 u0
  have u1 := cell_step b4 u1
  have u2 := cell_step b4 u2
  have u3 := cell_step b4 u3
  have u4 := cell_step b4 u4
  have p0 := cell_step b4 p0
  have p1 := cell_step b4 p1
  have B4 := below_step B3 b4
  clear b4 B3
  go_wp2_with fail
  go_ret
  exact ⟨rfl, B4⟩
theorem walk_unpacks (U V : Int) (hU : 0 ≤ U ∧ U < 18446744073709551616) (hV : 0 ≤ V ∧ V < 18446744073709551616) (w : World) (_hL : laidMetH Tryd.prog Rows.tagUnpacksRow.laid w) :
    Calls Tryd.prog 4 #[.int .u64 U, .int .u64 V] w fun e w' => e = .returned (.bool true) ∧ Below w.heap.size w w' := by
  cases hr : rightB (unA U) (unB U) (unC V) (unD V) (unE V)
  · exact walk_unpacks_no U V hU.1 hU.2 hV.1 hV.2 w hr
  · exact walk_unpacks_yes U V hU.1 hU.2 hV.1 hV.2 w hr
end Go.Proofs.YtffgcloacdpfaaaDoor
