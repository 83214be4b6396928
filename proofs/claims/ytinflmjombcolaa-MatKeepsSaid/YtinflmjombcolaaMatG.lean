/- Layer 7: New, and the reference's. -/
import Derived.Test.YtinflmjombcolaaMatF
namespace Go.Proofs.Ytinflmjombcolaa
open Go.RowKit
set_option linter.unusedVariables false
theorem elemVec : Elem Try.prog 27 2 (.int .i64 0) 1 8 := ⟨Try.underlying27, info_parts (by kernel_rfl), rfl, by decide⟩
theorem elemRef : Elem Try.prog 22 2 (.int .i64 0) 1 8 := ⟨Try.underlying22, info_parts (by kernel_rfl), rfl, by decide⟩
/-- three cells of a block are stored -/
structure Cell3 (R : Nat) (W : World) : Prop where
  c0 : ∃ v, W.cell? ⟨R, 0, none⟩ = some v
  c1 : ∃ v, W.cell? ⟨R, 1, none⟩ = some v
  c2 : ∃ v, W.cell? ⟨R, 2, none⟩ = some v
  f0 : W.frozen? ⟨R, 0, none⟩ = false
  f1 : W.frozen? ⟨R, 1, none⟩ = false
  f2 : W.frozen? ⟨R, 2, none⟩ = false
theorem Cell3.new (w : World) (x y z : Value) (e : TypeId) : Cell3 w.heap.size (w.alloc (.cells #[x, y, z] e)) :=
  ⟨⟨_, cell_new w _ e 0⟩, ⟨_, cell_new w _ e 1⟩, ⟨_, cell_new w _ e 2⟩, World.frozen?_alloc_new w _ e 0, World.frozen?_alloc_new w _ e 1, World.frozen?_alloc_new w _ e 2⟩
theorem Cell3.later {R : Nat} {W W' : World} (h : Cell3 R W) (b : Below W.heap.size W W') : Cell3 R W' := by
  obtain ⟨⟨x, c0⟩, ⟨y, c1⟩, ⟨z, c2⟩, f0, f1, f2⟩ := h
  exact ⟨⟨x, cell_step b c0⟩, ⟨y, cell_step b c1⟩, ⟨z, cell_step b c2⟩, frozen_step b c0 f0, frozen_step b c1 f1, frozen_step b c2 f2⟩
theorem stored3 {w : World} {B : Nat} (h : Cell3 B w) (v0 v1 v2 : Value) :
    (((w.setCell ⟨B, 0, none⟩ v0).setCell ⟨B, 1, none⟩ v1).setCell ⟨B, 2, none⟩ v2).cell? ⟨B, 0, none⟩ = some v0 ∧ (((w.setCell ⟨B, 0, none⟩ v0).setCell ⟨B, 1, none⟩ v1).setCell ⟨B, 2, none⟩ v2).cell? ⟨B, 1, none⟩ = some v1 ∧ (((w.setCell ⟨B, 0, none⟩ v0).setCell ⟨B, 1, none⟩ v1).setCell ⟨B, 2, none⟩ v2).cell? ⟨B, 2, none⟩ = some v2 ∧
    Below B w (((w.setCell ⟨B, 0, none⟩ v0).setCell ⟨B, 1, none⟩ v1).setCell ⟨B, 2, none⟩ v2) := by
  obtain ⟨⟨x, c0⟩, ⟨y, c1⟩, ⟨z, c2⟩, f0, f1, f2⟩ := h
  refine ⟨?_, ?_, ?_, below_set (below_set (below_set (Below.refl _ _) (Nat.le_refl _)) (Nat.le_refl _)) (Nat.le_refl _)⟩
  · rw [World.cell?_setCell_other _ _ _ _ (by simp), World.cell?_setCell_other _ _ _ _ (by simp)]; exact World.cell?_setCell_same _ _ _ c0
  · rw [World.cell?_setCell_other _ _ _ _ (by simp)]
    refine World.cell?_setCell_same _ _ _ (u := y) ?_
    rw [World.cell?_setCell_other _ _ _ _ (by simp)]; exact c1
  · refine World.cell?_setCell_same _ _ _ (u := z) ?_
    rw [World.cell?_setCell_other _ _ _ _ (by simp), World.cell?_setCell_other _ _ _ _ (by simp)]; exact c2
def ZeroMat (R C : Nat) (w : World) (e : Ending) (w' : World) : Prop :=
  ∃ v, e = .returned (.agg #[.int .i64 R, .int .i64 C, v]) ∧ w'.ownsRow w.heap.size 2 1 v (R * C) (List.replicate (R * C) (.int .i64 0)) ∧ Below w.heap.size w w'
set_option maxHeartbeats 1000000 in
theorem blank_any (R C : Nat) (hm : R * C ≤ 1048576) (w : World) :
    Calls Try.prog 33 #[.int .i64 R, .int .i64 C] w (ZeroMat R C w) := by
  have wk : IntKind.i64.wrap ((R : Int) * C) = ((R * C : Nat) : Int) := by
    rw [show (R : Int) * C = ((R * C : Nat) : Int) by simp]
    exact IntWalk.i64_in _ (by omega)
  unfold ZeroMat
  generalize R * C = n at *
  have hmk := run_make_elem elemVec .i64 .i64 n (by omega) (by omega)
  have AL := (Below.refl w.heap.size w).alloc (Nat.le_refl _) (.cells #[.int .i64 R, .int .i64 C, .slice (some ⟨w.heap.size + 1, 0, none⟩) n n] 29)
  have hs : (w.alloc (.cells #[.int .i64 R, .int .i64 C, .slice (some ⟨w.heap.size + 1, 0, none⟩) n n] 29)).heap.size = w.heap.size + 1 := by simp
  have ho := owns_made (w := w.alloc (.cells #[.int .i64 R, .int .i64 C, .slice (some ⟨w.heap.size + 1, 0, none⟩) n n] 29)) (base := w.heap.size) (e := 2) (size := 1) (n := n) (u := .int .i64 0) (z := #[.int .i64 0]) rfl (by decide) (by simp) (by unfold maxLen; omega)
  rw [hs, Nat.mul_one] at ho
  have HO := Lib.hid ho
  have B := Lib.hid (below_alloc (o := .cells (madeCells #[.int .i64 0] n) 2) AL)
  clear ho AL hs
  go_enter Try.func33, Try.ntmps33
  go_wp2_with fail
  (try simp only [Exit.inBlock, Exit.then])
  refine bodyPost_ret (v := .agg #[.int .i64 R, .int .i64 C, .slice (some ⟨w.heap.size + 1, 0, none⟩) n n]) (by simp [results, Try.results33, go_sem]) rfl ?_
  exact ⟨_, rfl, HO.out, B.out⟩
def newB (r c : Int) : Bool := decide (1 ≤ r) && (decide (1 ≤ c) && decide (r * c ≤ 1048576))
def NewMat (r c : Int) (w : World) (e : Ending) (w' : World) : Prop :=
  if newB r c then ZeroMat r.toNat c.toNat w e w' else e = .returned (.agg #[.int .i64 0, .int .i64 0, .slice none 0 0]) ∧ Below w.heap.size w w'
theorem new_small {r c : Int} (h : newB r c = true) : 1 ≤ r ∧ 1 ≤ c ∧ r * c ≤ 1048576 ∧ r ≤ 1048576 ∧ c ≤ 1048576 := by
  unfold newB at h
  simp only [Bool.and_eq_true, decide_eq_true_eq] at h
  obtain ⟨h1, h2, h3⟩ := h
  have a1 : r * 1 ≤ r * c := Int.mul_le_mul_of_nonneg_left h2 (by omega)
  have a2 : 1 * c ≤ r * c := Int.mul_le_mul_of_nonneg_right h1 (by omega)
  omega
set_option maxHeartbeats 1000000 in
theorem new_mat_any (r c : Int) (hr : -9223372036854775808 ≤ r ∧ r ≤ 9223372036854775807) (hc : -9223372036854775808 ≤ c ∧ c ≤ 9223372036854775807) (w : World) :
    Calls Try.prog 18 #[.int .i64 r, .int .i64 c] w (NewMat r c w) := by
  have AL := (Below.refl w.heap.size w).alloc (Nat.le_refl _) (.cells #[.int .i64 0, .int .i64 0, .slice none 0 0] 29)
  unfold NewMat
  cases h : newB r c
  · have h' : r < 1 ∨ ¬ r < 1 ∧ c < 1 ∨ ¬ r < 1 ∧ ¬ c < 1 ∧ 1048576 / c < r := by
      by_cases h1 : r < 1
      · exact .inl h1
      · by_cases h2 : c < 1
        · exact .inr (.inl ⟨h1, h2⟩)
        · refine .inr (.inr ⟨h1, h2, ?_⟩)
          unfold newB at h
          rw [show decide (1 ≤ r) = true by simp; omega, show decide (1 ≤ c) = true by simp; omega] at h
          have h3 : ¬ r * c ≤ 1048576 := by simpa using h
          exact (Int.ediv_lt_iff_lt_mul (by omega)).2 (by omega)
    clear h
    rcases h' with h | h | h
    · go_enter Try.func18, Try.ntmps18
      go_wp2_with fail
      (try simp only [Exit.inBlock, Exit.then])
      refine bodyPost_ret (v := .agg #[.int .i64 0, .int .i64 0, .slice none 0 0]) (by simp [results, Try.results18, go_sem]) rfl ⟨rfl, AL⟩
    · go_enter Try.func18, Try.ntmps18
      go_wp2_with fail
      (try simp only [Exit.inBlock, Exit.then])
      refine bodyPost_ret (v := .agg #[.int .i64 0, .int .i64 0, .slice none 0 0]) (by simp [results, Try.results18, go_sem]) rfl ⟨rfl, AL⟩
    · have q1 := Int.ediv_nonneg (show (0 : Int) ≤ 1048576 by decide) (show 0 ≤ c by omega)
      have q2 := Int.ediv_le_self c (show (0 : Int) ≤ 1048576 by decide)
      go_enter Try.func18, Try.ntmps18
      go_wp2_with fail
      (try simp only [Exit.inBlock, Exit.then])
      refine bodyPost_ret (v := .agg #[.int .i64 0, .int .i64 0, .slice none 0 0]) (by simp [results, Try.results18, go_sem]) rfl ⟨rfl, AL⟩
  · obtain ⟨r1, c1, p1, r2, c2⟩ := new_small h
    have q1 := Int.ediv_nonneg (show (0 : Int) ≤ 1048576 by decide) (show 0 ≤ c by omega)
    have q2 := Int.ediv_le_self c (show (0 : Int) ≤ 1048576 by decide)
    have q3 : r ≤ 1048576 / c := (Int.le_ediv_iff_mul_le (by omega)).2 p1
    have C3 := Lib.hid (Cell3.new w (.int .i64 0) (.int .i64 0) (.slice none 0 0) 29)
    obtain ⟨R, rfl⟩ := Int.eq_ofNat_of_zero_le (show 0 ≤ r by omega)
    obtain ⟨C, rfl⟩ := Int.eq_ofNat_of_zero_le (show 0 ≤ c by omega)
    have hRC : R * C ≤ 1048576 := by
      rw [show (R : Int) * C = ((R * C : Nat) : Int) by simp] at p1
      omega
    have HB := Lib.hid (fun W => blank_any R C hRC W)
    clear h p1
    unfold ZeroMat at HB
    go_enter Try.func18, Try.ntmps18
    go_wp2_with fail
    refine (HB.out _).mono ?_
    rintro e w1 ⟨v, rfl, o1, b1⟩
    have C4 := C3.out.later b1
    obtain ⟨⟨x, c0⟩, ⟨y, c1'⟩, ⟨z, c2'⟩, f0, f1, f2⟩ := C4
    obtain ⟨a, cp, rfl⟩ := own_value o1
    have ST := Lib.hid (stored3 ⟨⟨x, c0⟩, ⟨y, c1'⟩, ⟨z, c2'⟩, f0, f1, f2⟩ (.int .i64 R) (.int .i64 C) (.slice a (R * C) cp))
    have B1 := Lib.hid (below_step AL b1)
    have O1 := Lib.hid o1
    have hlt : w.heap.size < (w.alloc (.cells #[.int .i64 0, .int .i64 0, .slice none 0 0] 29)).heap.size := by simp
    clear b1 o1
    go_wp2_with fail
    (try simp only [Exit.inBlock, Exit.then])
    have D0 := ST.out.1
    have D1 := ST.out.2.1
    have D2 := ST.out.2.2.1
    refine bodyPost_ret (v := .agg #[.int .i64 R, .int .i64 C, .slice a (R * C) cp]) (by simp [results, Try.results18, D0, D1, D2, go_sem]) rfl ?_
    exact ⟨_, rfl, owns_mono (Nat.le_of_lt hlt) (ownsRow_setCell_below (ownsRow_setCell_below (ownsRow_setCell_below O1.out (a := ⟨w.heap.size, 0, none⟩) hlt _) (a := ⟨w.heap.size, 1, none⟩) hlt _) (a := ⟨w.heap.size, 2, none⟩) hlt _), B1.out.trans ST.out.2.2.2⟩
set_option maxHeartbeats 1000000 in
theorem refNew_any (r c : Int) (hr : -9223372036854775808 ≤ r ∧ r ≤ 9223372036854775807) (hc : -9223372036854775808 ≤ c ∧ c ≤ 9223372036854775807) (w : World) :
    Calls Try.prog 19 #[.int .i64 r, .int .i64 c] w (NewMat r c w) := by
  have AL := (Below.refl w.heap.size w).alloc (Nat.le_refl _) (.cells #[.int .i64 0, .int .i64 0, .slice none 0 0] 24)
  unfold NewMat
  cases h : newB r c
  · have h' : r < 1 ∨ ¬ r < 1 ∧ 1048576 < r ∨ ¬ r < 1 ∧ ¬ 1048576 < r ∧ c < 1 ∨ ¬ r < 1 ∧ ¬ 1048576 < r ∧ ¬ c < 1 ∧ 1048576 < c ∨ ¬ r < 1 ∧ ¬ 1048576 < r ∧ ¬ c < 1 ∧ ¬ 1048576 < c ∧ 1048576 < r * c := by
      by_cases h1 : r < 1
      · omega
      · by_cases h2 : c < 1
        · omega
        · unfold newB at h
          rw [show decide (1 ≤ r) = true by simp; omega, show decide (1 ≤ c) = true by simp; omega] at h
          have h3 : ¬ r * c ≤ 1048576 := by simpa using h
          omega
    clear h
    have wk : ¬ 1048576 < r → ¬ 1048576 < c → ¬ r < 1 → ¬ c < 1 → IntKind.i64.wrap (r * c) = r * c := fun a1 a2 a3 a4 => by
      have p0 := Int.mul_nonneg (show 0 ≤ r by omega) (show 0 ≤ c by omega)
      have p1 : r * c ≤ 1048576 * 1048576 := Int.mul_le_mul (by omega) (by omega) (by omega) (by omega)
      exact IntWalk.i64_in _ (by omega)
    have WK := Lib.hid wk
    clear wk
    rcases h' with h | h | h | h | h
    case inr.inr.inr.inr =>
      have wk := WK.out h.2.1 h.2.2.2.1 h.1 h.2.2.1
      go_enter Try.func19, Try.ntmps19
      go_wp2_with fail
      (try simp only [Exit.inBlock, Exit.then])
      refine bodyPost_ret (v := .agg #[.int .i64 0, .int .i64 0, .slice none 0 0]) (by simp [results, Try.results19, go_sem]) rfl ⟨rfl, AL⟩
    all_goals
      go_enter Try.func19, Try.ntmps19
      go_wp2_with fail
      (try simp only [Exit.inBlock, Exit.then])
      refine bodyPost_ret (v := .agg #[.int .i64 0, .int .i64 0, .slice none 0 0]) (by simp [results, Try.results19, go_sem]) rfl ⟨rfl, AL⟩
  · obtain ⟨r1, c1, p1, r2, c2⟩ := new_small h
    obtain ⟨R, rfl⟩ := Int.eq_ofNat_of_zero_le (show 0 ≤ r by omega)
    obtain ⟨C, rfl⟩ := Int.eq_ofNat_of_zero_le (show 0 ≤ c by omega)
    have e1 : (R : Int) * C = ((R * C : Nat) : Int) := by simp
    have hRC : R * C ≤ 1048576 := by rw [e1] at p1; omega
    have wk : IntKind.i64.wrap ((R : Int) * C) = ((R * C : Nat) : Int) := by
      rw [e1]; exact IntWalk.i64_in _ (by omega)
    clear h p1
    unfold ZeroMat
    rw [Int.toNat_natCast, Int.toNat_natCast]
    generalize R * C = n at *
    have p2 : (R : Int) * C ≤ 1048576 := by rw [e1]; omega
    have hmk := run_make_elem elemRef .i64 .i64 n (by omega) (by omega)
    have AL := (Below.refl w.heap.size w).alloc (Nat.le_refl _) (.cells #[.int .i64 R, .int .i64 C, .slice (some ⟨w.heap.size + 1, 0, none⟩) n n] 24)
    have hs : (w.alloc (.cells #[.int .i64 R, .int .i64 C, .slice (some ⟨w.heap.size + 1, 0, none⟩) n n] 24)).heap.size = w.heap.size + 1 := by simp
    have ho := owns_made (w := w.alloc (.cells #[.int .i64 R, .int .i64 C, .slice (some ⟨w.heap.size + 1, 0, none⟩) n n] 24)) (base := w.heap.size) (e := 2) (size := 1) (n := n) (u := .int .i64 0) (z := #[.int .i64 0]) rfl (by decide) (by simp) (by unfold maxLen; omega)
    rw [hs, Nat.mul_one] at ho
    have HO := Lib.hid ho
    have B := Lib.hid (below_alloc (o := .cells (madeCells #[.int .i64 0] n) 2) AL)
    clear ho AL hs
    go_enter Try.func19, Try.ntmps19
    go_wp2_with fail
    (try simp only [Exit.inBlock, Exit.then])
    refine bodyPost_ret (v := .agg #[.int .i64 R, .int .i64 C, .slice (some ⟨w.heap.size + 1, 0, none⟩) n n]) (by simp [results, Try.results19, go_sem]) rfl ?_
    exact ⟨_, rfl, HO.out, B.out⟩
end Go.Proofs.Ytinflmjombcolaa
