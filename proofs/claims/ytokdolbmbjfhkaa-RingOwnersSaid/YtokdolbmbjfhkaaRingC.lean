/- The segments of a ring, without memory: what a job's methods return. -/
import Derived.Test.YtokdolbmbjfhkaaGen
import Derived.Test.YtokdolbmbjfhkaaProg
import Derived.IntWalk
import Derived.RegionTactic
import Derived.Deep.RegionHeld3
import Derived.Deep.QuietTactic
import Derived.BigQuiet
namespace Go.Proofs.Ytokdolbmbjfhkaa
open Go.RowKit
def Jv (s b lo hi n c : Int) : Value := .agg #[.int .i64 s, .int .i64 b, .int .i64 lo, .int .i64 hi, .int .i64 n, .int .i64 c]
def Jc (s b lo hi n c : Int) : Array Value := #[.int .i64 s, .int .i64 b, .int .i64 lo, .int .i64 hi, .int .i64 n, .int .i64 c]
/-- the job's cells in a block -/
def JobAt (B : Nat) (s b lo hi n c : Int) (w : World) : Prop :=
  w.cell? ⟨B, 0, none⟩ = some (.int .i64 s) ∧ w.cell? ⟨B, 1, none⟩ = some (.int .i64 b) ∧ w.cell? ⟨B, 2, none⟩ = some (.int .i64 lo) ∧ w.cell? ⟨B, 3, none⟩ = some (.int .i64 hi) ∧ w.cell? ⟨B, 4, none⟩ = some (.int .i64 n) ∧ w.cell? ⟨B, 5, none⟩ = some (.int .i64 c)
theorem JobAt.new (s b lo hi n c : Int) (w : World) (e : TypeId) : JobAt w.heap.size s b lo hi n c (w.alloc (.cells (Jc s b lo hi n c) e)) := by
  unfold JobAt
  simp only [cell_new]
  unfold Jc
  simp
theorem JobAt.step {B : Nat} {s b lo hi n c : Int} {w w' : World} (h : JobAt B s b lo hi n c w) (k : Below w.heap.size w w') : JobAt B s b lo hi n c w' :=
  ⟨cell_step k h.1, cell_step k h.2.1, cell_step k h.2.2.1, cell_step k h.2.2.2.1, cell_step k h.2.2.2.2.1, cell_step k h.2.2.2.2.2⟩
theorem tmod_around (x n : Int) (hn : 1 ≤ n) : (x.tmod n + n) % n = x % n := by
  rw [Int.add_emod_right, Int.tmod_eq_emod]
  split
  · simp
  · rw [Int.sub_emod, Int.natAbs_of_nonneg (by omega)]
    simp
theorem tmod_bounds (x n : Int) (hn : 1 ≤ n) : -n < x.tmod n ∧ x.tmod n < n := by
  have h1 := Int.tmod_lt_of_pos x (show 0 < n by omega)
  refine ⟨?_, h1⟩
  rcases Int.le_total 0 x with h | h
  · have := Int.tmod_nonneg n h
    omega
  · have h2 := Int.tmod_lt_of_pos (-x) (show 0 < n by omega)
    rw [Int.neg_tmod] at h2
    omega
theorem has_any (s b lo hi n c x : Int) (w : World) :
    Calls Try.prog 29 #[Jv s b lo hi n c, .int .i64 x] w fun e w' => e = .returned (.bool (decide (0 ≤ x) && decide (x < n))) ∧ Below w.heap.size w w' := by
  unfold Jv
  have al := (Below.refl w.heap.size w).alloc (Nat.le_refl _) (.cells (Jc s b lo hi n c) 32)
  unfold Jc at al
  by_cases h0 : 0 ≤ x
  · have g0 : decide (0 ≤ x) = true := decide_eq_true h0
    go_enter Try.func29, Try.ntmps29
    go_wp2
    go_ret
    exact ⟨by first | rfl | (simp [g0]; done), al⟩
  · have g0 : decide (0 ≤ x) = false := decide_eq_false h0
    go_enter Try.func29, Try.ntmps29
    go_wp2
    go_ret
    exact ⟨by first | rfl | (simp [g0]; done), al⟩
theorem each_any (s b lo hi n c : Int) (hn : 1 ≤ n ∧ n ≤ 64) (w : World) :
    Calls Try.prog 30 #[Jv s b lo hi n c] w fun e w' => e = .returned (.int .i64 (n - 1)) ∧ Below w.heap.size w w' := by
  unfold Jv
  have al := (Below.refl w.heap.size w).alloc (Nat.le_refl _) (.cells (Jc s b lo hi n c) 32)
  unfold Jc at al
  obtain ⟨h1, h2⟩ := hn
  go_enter Try.func30, Try.ntmps30
  go_wp2
  go_ret
  exact ⟨rfl, al⟩
theorem scatter_any (s b lo hi n c x r : Int) (hx : -200 ≤ x ∧ x ≤ 200) (hr : 0 ≤ r ∧ r ≤ 200) (w : World) :
    Calls Try.prog 31 #[Jv s b lo hi n c, .int .i64 x, .int .i64 r] w fun e w' => e = .returned (.int .i64 (x - r)) ∧ Below w.heap.size w w' := by
  unfold Jv
  have al := (Below.refl w.heap.size w).alloc (Nat.le_refl _) (.cells (Jc s b lo hi n c) 32)
  unfold Jc at al
  obtain ⟨h1, h2⟩ := hx
  obtain ⟨h3, h4⟩ := hr
  go_enter Try.func31, Try.ntmps31
  go_wp2
  go_ret
  exact ⟨rfl, al⟩
theorem gather_any (s b lo hi n c x r : Int) (hx : -200 ≤ x ∧ x ≤ 200) (hr : 0 ≤ r ∧ r ≤ 200) (w : World) :
    Calls Try.prog 32 #[Jv s b lo hi n c, .int .i64 x, .int .i64 r] w fun e w' => e = .returned (.int .i64 (x + 1 - r)) ∧ Below w.heap.size w w' := by
  unfold Jv
  have al := (Below.refl w.heap.size w).alloc (Nat.le_refl _) (.cells (Jc s b lo hi n c) 32)
  unfold Jc at al
  obtain ⟨h1, h2⟩ := hx
  obtain ⟨h3, h4⟩ := hr
  go_enter Try.func32, Try.ntmps32
  go_wp2
  go_ret
  exact ⟨rfl, al⟩
theorem around_any (s b lo hi n c x : Int) (hn : 1 ≤ n ∧ n ≤ 64) (hx : -500 ≤ x ∧ x ≤ 500) (w : World) :
    Calls Try.prog 33 #[Jv s b lo hi n c, .int .i64 x] w fun e w' => e = .returned (.int .i64 (x % n)) ∧ Below w.heap.size w w' := by
  have hm := Lib.hid (tmod_around x n hn.1)
  unfold Jv
  have al := (Below.refl w.heap.size w).alloc (Nat.le_refl _) (.cells (Jc s b lo hi n c) 32)
  unfold Jc at al
  obtain ⟨hb1, hb2⟩ := tmod_bounds x n hn.1
  obtain ⟨h1, h2⟩ := hn
  have hw : IntKind.i64.wrap (x.tmod n + n) = x.tmod n + n := IntWalk.i64_in _ (by omega)
  have h0 : (n == 0) = false := by simp; omega
  have hp : 0 ≤ x.tmod n + n := by omega
  go_enter Try.func33, Try.ntmps33
  go_wp2
  go_quiet (fail)
  go_wp2
  go_ret
  exact ⟨ret_i hm.out, below_drewN al nq⟩
end Go.Proofs.Ytokdolbmbjfhkaa
