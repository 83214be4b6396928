/- The reference's segments; the other methods; the example. -/
import Derived.Test.YtokdolbmbjfhkaaRingC
namespace Go.Proofs.Ytokdolbmbjfhkaa
open Go.RowKit
def segOk' (n x p r : Int) : Bool := (decide (0 ≤ x) && decide (x < n)) && (decide (0 ≤ p) && decide (p ≤ 1)) && (decide (0 ≤ r) && decide (r < n - 1))
def segV' (n x p r : Int) (send : Bool) : Int := ((if send then x else x - 1) - r + p) % n
set_option maxHeartbeats 1000000 in
theorem refSegment_no (s b lo hi n c x p r : Int) (send : Bool) (hn : 1 ≤ n ∧ n ≤ 64) (h : segOk' n x p r = false) (w : World) :
    Calls Try.prog 12 #[Jv s b lo hi n c, .int .i64 x, .int .i64 p, .int .i64 r, .bool send] w fun e w' => e = .returned (.tuple #[.int .i64 0, .bool false]) ∧ Below w.heap.size w w' := by
  have al := (Below.refl w.heap.size w).alloc (Nat.le_refl _) (.cells (Jc s b lo hi n c) 25)
  unfold Jc at al
  obtain ⟨n0, n1⟩ := hn
  have hh : x < 0 ∨ (0 ≤ x ∧ n ≤ x) ∨ (0 ≤ x ∧ x < n ∧ p < 0) ∨ (0 ≤ x ∧ x < n ∧ 0 ≤ p ∧ 1 < p) ∨ (0 ≤ x ∧ x < n ∧ 0 ≤ p ∧ p ≤ 1 ∧ r < 0) ∨ (0 ≤ x ∧ x < n ∧ 0 ≤ p ∧ p ≤ 1 ∧ 0 ≤ r ∧ n - 2 < r) := by
    unfold segOk' at h
    simp only [Bool.and_eq_false_iff, decide_eq_false_iff_not] at h
    omega
  clear h
  have wn : IntKind.i64.wrap (n - 2) = n - 2 := IntWalk.i64_in _ (by omega)
  unfold Jv
  rcases hh with h | ⟨h1, h2⟩ | ⟨h1, h2, h3⟩ | ⟨h1, h2, h3, h4⟩ | ⟨h1, h2, h3, h4, h5⟩ | ⟨h1, h2, h3, h4, h5, h6⟩
  · have g1 : decide (x < 0) = true := decide_eq_true h
    go_enter Try.func12, Try.ntmps12
    go_wp2
    go_ret2
    exact ⟨rfl, al⟩
  · have g1 : decide (x < 0) = false := decide_eq_false (by omega)
    have g2 : decide (n ≤ x) = true := decide_eq_true h2
    go_enter Try.func12, Try.ntmps12
    go_wp2
    go_ret2
    exact ⟨rfl, al⟩
  · have g1 : decide (x < 0) = false := decide_eq_false (by omega)
    have g2 : decide (n ≤ x) = false := decide_eq_false (by omega)
    have g3 : decide (p < 0) = true := decide_eq_true h3
    go_enter Try.func12, Try.ntmps12
    go_wp2
    go_ret2
    exact ⟨rfl, al⟩
  · have g1 : decide (x < 0) = false := decide_eq_false (by omega)
    have g2 : decide (n ≤ x) = false := decide_eq_false (by omega)
    have g3 : decide (p < 0) = false := decide_eq_false (by omega)
    have g4 : decide (1 < p) = true := decide_eq_true h4
    go_enter Try.func12, Try.ntmps12
    go_wp2
    go_ret2
    exact ⟨rfl, al⟩
  · have g1 : decide (x < 0) = false := decide_eq_false (by omega)
    have g2 : decide (n ≤ x) = false := decide_eq_false (by omega)
    have g3 : decide (p < 0) = false := decide_eq_false (by omega)
    have g4 : decide (1 < p) = false := decide_eq_false (by omega)
    have g5 : decide (r < 0) = true := decide_eq_true h5
    go_enter Try.func12, Try.ntmps12
    go_wp2
    go_ret2
    exact ⟨rfl, al⟩
  · have g1 : decide (x < 0) = false := decide_eq_false (by omega)
    have g2 : decide (n ≤ x) = false := decide_eq_false (by omega)
    have g3 : decide (p < 0) = false := decide_eq_false (by omega)
    have g4 : decide (1 < p) = false := decide_eq_false (by omega)
    have g5 : decide (r < 0) = false := decide_eq_false (by omega)
    have g6 : decide (n - 2 < r) = true := decide_eq_true h6
    go_enter Try.func12, Try.ntmps12
    go_wp2
    go_ret2
    exact ⟨rfl, al⟩
set_option maxHeartbeats 1000000 in
theorem refSegment_yes (s b lo hi n c x p r : Int) (send : Bool) (hn : 1 ≤ n ∧ n ≤ 64) (h : segOk' n x p r = true) (w : World) :
    Calls Try.prog 12 #[Jv s b lo hi n c, .int .i64 x, .int .i64 p, .int .i64 r, .bool send] w fun e w' => e = .returned (.tuple #[.int .i64 (segV' n x p r send), .bool true]) ∧ Below w.heap.size w w' := by
  have al := (Below.refl w.heap.size w).alloc (Nat.le_refl _) (.cells (Jc s b lo hi n c) 25)
  unfold Jc at al
  unfold segOk' at h
  simp only [Bool.and_eq_true, decide_eq_true_eq] at h
  obtain ⟨⟨⟨x0, x1⟩, p0, p1⟩, r0, r1⟩ := h
  obtain ⟨n0, n1⟩ := hn
  have g1 : decide (x < 0) = false := decide_eq_false (by omega)
  have g2 : decide (n ≤ x) = false := decide_eq_false (by omega)
  have g3 : decide (p < 0) = false := decide_eq_false (by omega)
  have g4 : decide (1 < p) = false := decide_eq_false (by omega)
  have g5 : decide (r < 0) = false := decide_eq_false (by omega)
  have g6 : decide (n - 2 < r) = false := decide_eq_false (by omega)
  have hn0 : (n == 0) = false := by simp; omega
  unfold Jv
  cases send
  · have HV : Hid (segV' n x p r false = (x - r + p - 1 + 2 * n) % n) := Lib.hid (by
      unfold segV'
      rw [show x - r + p - 1 + 2 * n = (x - 1 - r + p) + n * 2 by omega, Int.add_mul_emod_self_left]
      rfl)
    have hp : 0 ≤ x - r + p - 1 + 2 * n := by omega
    go_enter Try.func12, Try.ntmps12
    go_wp2
    go_ret2
    rw [HV.out]
    exact ⟨rfl, al⟩
  · have HV : Hid (segV' n x p r true = (x - r + p + 2 * n) % n) := Lib.hid (by
      unfold segV'
      rw [show x - r + p + 2 * n = (x - r + p) + n * 2 by omega, Int.add_mul_emod_self_left]
      rfl)
    have hp : 0 ≤ x - r + p + 2 * n := by omega
    go_enter Try.func12, Try.ntmps12
    go_wp2
    go_ret2
    rw [HV.out]
    exact ⟨rfl, al⟩
theorem rounds_any (s b lo hi n c : Int) (hn : 1 ≤ n ∧ n ≤ 64) (w : World) :
    Calls Try.prog 13 #[Jv s b lo hi n c] w fun e w' => e = .returned (.int .i64 (2 * (n - 1))) ∧ Below w.heap.size w w' := by
  have HEach := Lib.hid (fun W => each_any s b lo hi n c hn W)
  unfold Jv at HEach ⊢
  have al := (Below.refl w.heap.size w).alloc (Nat.le_refl _) (.cells (Jc s b lo hi n c) 32)
  unfold Jc at al
  obtain ⟨h1, h2⟩ := hn
  go_enter Try.func13, Try.ntmps13
  go_wp2_with fail
  refine (HEach.out _).mono ?_
  rintro e w1 ⟨rfl, b1⟩
  go_wp2_with fail
  go_ret
  exact ⟨rfl, below_step al b1⟩
theorem given_any (s b lo hi n c : Int) (w : World) :
    Calls Try.prog 10 #[Jv s b lo hi n c] w fun e w' => e = .returned (Jv s b lo hi n c) ∧ Below w.heap.size w w' := by
  unfold Jv
  go_enter Try.func10, Try.ntmps10
  go_wp2_with fail
  (try simp only [Exit.inBlock, Exit.then])
  refine bodyPost_ret (v := .agg #[.int .i64 s, .int .i64 b, .int .i64 lo, .int .i64 hi, .int .i64 n, .int .i64 c]) (by simp [results, Try.results10, go_sem]) rfl ⟨rfl, ?_⟩
  exact ((Below.refl w.heap.size w).alloc (Nat.le_refl _) _).alloc (by simp) _
def fewJ (lo hi n c : Int) : Bool := decide (0 ≤ lo) && decide (lo ≤ hi) && decide (hi ≤ 300) && decide (1 ≤ n) && decide (n ≤ 64) && decide (1 ≤ c) && decide (c ≤ 1048576) && (decide (n ≤ 12) || decide (hi ≤ 40))
set_option maxHeartbeats 2000000 in
theorem few_any (s b lo hi n c : Int) (w : World) :
    Calls Try.prog 8 #[Jv s b lo hi n c] w fun e w' => e = .returned (.bool (fewJ lo hi n c)) ∧ Below w.heap.size w w' := by
  have al := (Below.refl w.heap.size w).alloc (Nat.le_refl _) (.cells (Jc s b lo hi n c) 25)
  unfold Jc at al
  unfold Jv
  go_enter Try.func8, Try.ntmps8
  go_wp2
  all_goals
    go_ret
    refine ⟨ret_b ?_, al⟩
    unfold fewJ
    rw [Bool.eq_iff_iff]
    simp
    try omega
end Go.Proofs.Ytokdolbmbjfhkaa
