/- The segment that a worker sends or receives. -/
import Derived.Test.YtokdolbmbjfhkaaRingC
namespace Go.Proofs.Ytokdolbmbjfhkaa
open Go.RowKit
def segOk (n x p r : Int) : Bool := (decide (0 ≤ x) && decide (x < n)) && (decide (0 ≤ p) && decide (p ≤ 1)) && (decide (0 ≤ r) && decide (r < n - 1))
def segV (n x p r : Int) (send : Bool) : Int := ((if send then x else x - 1) - r + p) % n
def segR (n x p r : Int) (send : Bool) : Int := if segOk n x p r then segV n x p r send else 0
theorem has_is (s b lo hi n c x : Int) (v : Bool) (h : (decide (0 ≤ x) && decide (x < n)) = v) (w : World) :
    Calls Try.prog 29 #[Jv s b lo hi n c, .int .i64 x] w fun e w' => e = .returned (.bool v) ∧ Below w.heap.size w w' := h ▸ has_any s b lo hi n c x w
set_option maxHeartbeats 1000000 in
theorem segment_no (s b lo hi n c x p r : Int) (send : Bool) (hn : 1 ≤ n ∧ n ≤ 64) (h : segOk n x p r = false) (w : World) :
    Calls Try.prog 11 #[Jv s b lo hi n c, .int .i64 x, .int .i64 p, .int .i64 r, .bool send] w fun e w' => e = .returned (.tuple #[.int .i64 0, .bool false]) ∧ Below w.heap.size w w' := by
  have al := (Below.refl w.heap.size w).alloc (Nat.le_refl _) (.cells (Jc s b lo hi n c) 32)
  have J0 := JobAt.new s b lo hi n c w 32
  unfold Jc at al J0
  have hz : w.heap.size < (w.alloc (.cells #[.int .i64 s, .int .i64 b, .int .i64 lo, .int .i64 hi, .int .i64 n, .int .i64 c] 32)).heap.size := by simp
  cases hv : (decide (0 ≤ x) && decide (x < n))
  · have HA := fun W => has_is s b lo hi n c x false hv W
    have HE := Lib.hid HA
    clear HA hv h
    unfold Jv at HE ⊢
    go_enter Try.func11, Try.ntmps11
    go_wp2_with fail
    refine (HE.out _).mono ?_
    rintro e w1 ⟨rfl, b1⟩
    go_wp2_with fail
    go_ret2
    exact ⟨rfl, below_step al b1⟩
  · have HA := fun W => has_is s b lo hi n c x true hv W
    have HE := Lib.hid HA
    have hh : ((decide (0 ≤ p) && decide (p ≤ 1)) && (decide (0 ≤ r) && decide (r < n - 1))) = false := by
      unfold segOk at h
      rw [hv, Bool.true_and] at h
      exact h
    clear HA hv h
    unfold Jv at HE ⊢
    by_cases h1 : p < 0
    · have g1 : decide (p < 0) = true := decide_eq_true h1
      clear hh
      go_enter Try.func11, Try.ntmps11
      go_wp2_with fail
      refine (HE.out _).mono ?_
      rintro e w1 ⟨rfl, b1⟩
      go_wp2_with fail
      go_ret2
      exact ⟨rfl, below_step al b1⟩
    · have g1 : decide (p < 0) = false := decide_eq_false h1
      by_cases h2 : 1 < p
      · have g2 : decide (1 < p) = true := decide_eq_true h2
        clear hh
        go_enter Try.func11, Try.ntmps11
        go_wp2_with fail
        refine (HE.out _).mono ?_
        rintro e w1 ⟨rfl, b1⟩
        go_wp2_with fail
        go_ret2
        exact ⟨rfl, below_step al b1⟩
      · have g2 : decide (1 < p) = false := decide_eq_false h2
        by_cases h3 : r < 0
        · have g3 : decide (r < 0) = true := decide_eq_true h3
          clear hh
          go_enter Try.func11, Try.ntmps11
          go_wp2_with fail
          refine (HE.out _).mono ?_
          rintro e w1 ⟨rfl, b1⟩
          go_wp2_with fail
          go_ret2
          exact ⟨rfl, below_step al b1⟩
        · have g3 : decide (r < 0) = false := decide_eq_false h3
          have h4 : n - 1 ≤ r := by
            simp only [Bool.and_eq_false_iff, decide_eq_false_iff_not] at hh
            omega
          have g4 : decide (n - 1 ≤ r) = true := decide_eq_true h4
          have HEach := Lib.hid (fun W => each_any s b lo hi n c hn W)
          clear hh
          unfold Jv at HEach
          go_enter Try.func11, Try.ntmps11
          go_wp2_with fail
          refine (HE.out _).mono ?_
          rintro e w1 ⟨rfl, b1⟩
          obtain ⟨c0, c1, c2, c3, c4, c5⟩ := J0.step b1
          have B1 := below_step al b1
          go_wp2_with fail
          refine (HEach.out _).mono ?_
          rintro e w2 ⟨rfl, b2⟩
          go_wp2_with fail
          go_ret2
          exact ⟨rfl, below_step B1 b2⟩
set_option maxHeartbeats 2000000 in
theorem segment_yes (s b lo hi n c x p r : Int) (send : Bool) (hn : 1 ≤ n ∧ n ≤ 64) (h : segOk n x p r = true) (w : World) :
    Calls Try.prog 11 #[Jv s b lo hi n c, .int .i64 x, .int .i64 p, .int .i64 r, .bool send] w fun e w' => e = .returned (.tuple #[.int .i64 (segV n x p r send), .bool true]) ∧ Below w.heap.size w w' := by
  have al := (Below.refl w.heap.size w).alloc (Nat.le_refl _) (.cells (Jc s b lo hi n c) 32)
  have J0 := JobAt.new s b lo hi n c w 32
  unfold Jc at al J0
  unfold segOk at h
  simp only [Bool.and_eq_true, decide_eq_true_eq] at h
  obtain ⟨⟨⟨x0, x1⟩, p0, p1⟩, r0, r1⟩ := h
  obtain ⟨n0, n1⟩ := hn
  have HE := Lib.hid (fun W => has_is s b lo hi n c x true (by simp [x0, x1]) W)
  have HEach := Lib.hid (fun W => each_any s b lo hi n c ⟨n0, n1⟩ W)
  have g1 : decide (p < 0) = false := decide_eq_false (by omega)
  have g2 : decide (1 < p) = false := decide_eq_false (by omega)
  have g3 : decide (r < 0) = false := decide_eq_false (by omega)
  have g4 : decide (n - 1 ≤ r) = false := decide_eq_false (by omega)
  have i0 : ∀ W, (Instr.index 67 (.agg #[.func (.func 31) #[] #[], .func (.func 32) #[] #[]]) (.int .i64 0)).run Try.prog W = .ok (.func (.func 31) #[] #[]) W := fun _ => by kernel_rfl
  have i1 : ∀ W, (Instr.index 67 (.agg #[.func (.func 31) #[] #[], .func (.func 32) #[] #[]]) (.int .i64 1)).run Try.prog W = .ok (.func (.func 32) #[] #[]) W := fun _ => by kernel_rfl
  have hp : p = 0 ∨ p = 1 := by omega
  obtain ⟨y, hy⟩ : ∃ y : Int, y = if send then x else x - 1 := ⟨_, rfl⟩
  have hyb : -1 ≤ y ∧ y ≤ 64 := by rw [hy]; split <;> omega
  have HY := Lib.hid hy
  have hyt : Hid (send = true → x = y) := Lib.hid (fun h => by rw [hy, h]; rfl)
  have hyf : Hid (send = false → x - 1 = y) := Lib.hid (fun h => by rw [hy, h]; rfl)
  clear hy
  rcases hp with rfl | rfl
  · have HSc := Lib.hid (fun W => scatter_any s b lo hi n c y r ⟨by omega, by omega⟩ ⟨by omega, by omega⟩ W)
    have HAr := Lib.hid (fun W => around_any s b lo hi n c (y - r) ⟨n0, n1⟩ ⟨by omega, by omega⟩ W)
    have HV : Hid (segV n x 0 r send = (y - r) % n) := Lib.hid (by unfold segV; rw [← HY.out, Int.add_zero])
    rw [HV.out]
    unfold Jv at HE HEach HSc HAr ⊢
    go_enter Try.func11, Try.ntmps11
    go_wp2_with fail
    refine (HE.out _).mono ?_
    rintro e w1 ⟨rfl, b1⟩
    have J1 := Lib.hid (J0.step b1)
    obtain ⟨c0, c1, c2, c3, c4, c5⟩ := J1.out
    have B1 := below_step al b1
    go_wp2_with fail
    refine (HEach.out _).mono ?_
    rintro e w2 ⟨rfl, b2⟩
    have J2 := Lib.hid (J1.out.step b2)
    clear c0 c1 c2 c3 c4 c5
    obtain ⟨c0, c1, c2, c3, c4, c5⟩ := J2.out
    have B2 := below_step B1 b2
    cases send
    · have hyy := hyf.out rfl
      go_wp2_with fail
      go_region_held3 (fun w' => w'.cell? ⟨w.heap.size, 0, none⟩ = some (.int .i64 s) ∧ w'.cell? ⟨w.heap.size, 1, none⟩ = some (.int .i64 b) ∧ w'.cell? ⟨w.heap.size, 2, none⟩ = some (.int .i64 lo) ∧ w'.cell? ⟨w.heap.size, 3, none⟩ = some (.int .i64 hi) ∧ w'.cell? ⟨w.heap.size, 4, none⟩ = some (.int .i64 n) ∧ w'.cell? ⟨w.heap.size, 5, none⟩ = some (.int .i64 c) ∧ Below w2.heap.size w2 w') (first | exact ⟨c0, c1, c2, c3, c4, c5, (Below.refl _ _).drew⟩ | (obtain ⟨k0, k1, k2, k3, k4, k5, k6⟩ := ‹_ ∧ _ ∧ _ ∧ _ ∧ _ ∧ _ ∧ Below _ _ _›; exact ⟨cell_step ‹_› k0, cell_step ‹_› k1, cell_step ‹_› k2, cell_step ‹_› k3, cell_step ‹_› k4, cell_step ‹_› k5, below_step k6 ‹_›⟩)) (first | (go_at_call 31; with_reducible refine (HSc.out _).mono ?_; rintro e w5 ⟨rfl, h5⟩) | (go_at_call 33; with_reducible refine (HAr.out _).mono ?_; rintro e w6 ⟨rfl, h6⟩))
      go_wp2_with fail
      go_ret2
      obtain ⟨_, _, _, _, _, _, k6⟩ := ‹_ ∧ _ ∧ _ ∧ _ ∧ _ ∧ _ ∧ Below _ _ _›
      exact ⟨rfl, below_step B2 k6⟩
    · have hyy := hyt.out rfl
      go_wp2_with fail
      go_region_held3 (fun w' => w'.cell? ⟨w.heap.size, 0, none⟩ = some (.int .i64 s) ∧ w'.cell? ⟨w.heap.size, 1, none⟩ = some (.int .i64 b) ∧ w'.cell? ⟨w.heap.size, 2, none⟩ = some (.int .i64 lo) ∧ w'.cell? ⟨w.heap.size, 3, none⟩ = some (.int .i64 hi) ∧ w'.cell? ⟨w.heap.size, 4, none⟩ = some (.int .i64 n) ∧ w'.cell? ⟨w.heap.size, 5, none⟩ = some (.int .i64 c) ∧ Below w2.heap.size w2 w') (first | exact ⟨c0, c1, c2, c3, c4, c5, (Below.refl _ _).drew⟩ | (obtain ⟨k0, k1, k2, k3, k4, k5, k6⟩ := ‹_ ∧ _ ∧ _ ∧ _ ∧ _ ∧ _ ∧ Below _ _ _›; exact ⟨cell_step ‹_› k0, cell_step ‹_› k1, cell_step ‹_› k2, cell_step ‹_› k3, cell_step ‹_› k4, cell_step ‹_› k5, below_step k6 ‹_›⟩)) (first | (go_at_call 31; with_reducible refine (HSc.out _).mono ?_; rintro e w5 ⟨rfl, h5⟩) | (go_at_call 33; with_reducible refine (HAr.out _).mono ?_; rintro e w6 ⟨rfl, h6⟩))
      go_wp2_with fail
      go_ret2
      obtain ⟨_, _, _, _, _, _, k6⟩ := ‹_ ∧ _ ∧ _ ∧ _ ∧ _ ∧ _ ∧ Below _ _ _›
      exact ⟨rfl, below_step B2 k6⟩
  · have HSc := Lib.hid (fun W => gather_any s b lo hi n c y r ⟨by omega, by omega⟩ ⟨by omega, by omega⟩ W)
    have HAr := Lib.hid (fun W => around_any s b lo hi n c (y + 1 - r) ⟨n0, n1⟩ ⟨by omega, by omega⟩ W)
    have HV : Hid (segV n x 1 r send = (y + 1 - r) % n) := Lib.hid (by unfold segV; rw [← HY.out]; congr 1; omega)
    rw [HV.out]
    unfold Jv at HE HEach HSc HAr ⊢
    go_enter Try.func11, Try.ntmps11
    go_wp2_with fail
    refine (HE.out _).mono ?_
    rintro e w1 ⟨rfl, b1⟩
    have J1 := Lib.hid (J0.step b1)
    obtain ⟨c0, c1, c2, c3, c4, c5⟩ := J1.out
    have B1 := below_step al b1
    go_wp2_with fail
    refine (HEach.out _).mono ?_
    rintro e w2 ⟨rfl, b2⟩
    have J2 := Lib.hid (J1.out.step b2)
    clear c0 c1 c2 c3 c4 c5
    obtain ⟨c0, c1, c2, c3, c4, c5⟩ := J2.out
    have B2 := below_step B1 b2
    cases send
    · have hyy := hyf.out rfl
      go_wp2_with fail
      go_region_held3 (fun w' => w'.cell? ⟨w.heap.size, 0, none⟩ = some (.int .i64 s) ∧ w'.cell? ⟨w.heap.size, 1, none⟩ = some (.int .i64 b) ∧ w'.cell? ⟨w.heap.size, 2, none⟩ = some (.int .i64 lo) ∧ w'.cell? ⟨w.heap.size, 3, none⟩ = some (.int .i64 hi) ∧ w'.cell? ⟨w.heap.size, 4, none⟩ = some (.int .i64 n) ∧ w'.cell? ⟨w.heap.size, 5, none⟩ = some (.int .i64 c) ∧ Below w2.heap.size w2 w') (first | exact ⟨c0, c1, c2, c3, c4, c5, (Below.refl _ _).drew⟩ | (obtain ⟨k0, k1, k2, k3, k4, k5, k6⟩ := ‹_ ∧ _ ∧ _ ∧ _ ∧ _ ∧ _ ∧ Below _ _ _›; exact ⟨cell_step ‹_› k0, cell_step ‹_› k1, cell_step ‹_› k2, cell_step ‹_› k3, cell_step ‹_› k4, cell_step ‹_› k5, below_step k6 ‹_›⟩)) (first | (go_at_call 32; with_reducible refine (HSc.out _).mono ?_; rintro e w5 ⟨rfl, h5⟩) | (go_at_call 33; with_reducible refine (HAr.out _).mono ?_; rintro e w6 ⟨rfl, h6⟩))
      go_wp2_with fail
      go_ret2
      obtain ⟨_, _, _, _, _, _, k6⟩ := ‹_ ∧ _ ∧ _ ∧ _ ∧ _ ∧ _ ∧ Below _ _ _›
      exact ⟨rfl, below_step B2 k6⟩
    · have hyy := hyt.out rfl
      go_wp2_with fail
      go_region_held3 (fun w' => w'.cell? ⟨w.heap.size, 0, none⟩ = some (.int .i64 s) ∧ w'.cell? ⟨w.heap.size, 1, none⟩ = some (.int .i64 b) ∧ w'.cell? ⟨w.heap.size, 2, none⟩ = some (.int .i64 lo) ∧ w'.cell? ⟨w.heap.size, 3, none⟩ = some (.int .i64 hi) ∧ w'.cell? ⟨w.heap.size, 4, none⟩ = some (.int .i64 n) ∧ w'.cell? ⟨w.heap.size, 5, none⟩ = some (.int .i64 c) ∧ Below w2.heap.size w2 w') (first | exact ⟨c0, c1, c2, c3, c4, c5, (Below.refl _ _).drew⟩ | (obtain ⟨k0, k1, k2, k3, k4, k5, k6⟩ := ‹_ ∧ _ ∧ _ ∧ _ ∧ _ ∧ _ ∧ Below _ _ _›; exact ⟨cell_step ‹_› k0, cell_step ‹_› k1, cell_step ‹_› k2, cell_step ‹_› k3, cell_step ‹_› k4, cell_step ‹_› k5, below_step k6 ‹_›⟩)) (first | (go_at_call 32; with_reducible refine (HSc.out _).mono ?_; rintro e w5 ⟨rfl, h5⟩) | (go_at_call 33; with_reducible refine (HAr.out _).mono ?_; rintro e w6 ⟨rfl, h6⟩))
      go_wp2_with fail
      go_ret2
      obtain ⟨_, _, _, _, _, _, k6⟩ := ‹_ ∧ _ ∧ _ ∧ _ ∧ _ ∧ _ ∧ Below _ _ _›
      exact ⟨rfl, below_step B2 k6⟩
end Go.Proofs.Ytokdolbmbjfhkaa
