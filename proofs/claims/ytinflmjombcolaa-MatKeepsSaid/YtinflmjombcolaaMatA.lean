/- Layer 7: whether a matrix is right; how the laws turn matrices about. -/
import Derived.Test.YtinflmjombcolaaVecP
import Derived.Test.YtinflmjombcolaaGen
import Derived.BigQuiet
import Derived.Deep.Cut
namespace Go.Proofs.Ytinflmjombcolaa
open Go.RowKit
set_option linter.unusedVariables false
def sideB (n : Int) : Bool := decide (1 ≤ n) && decide (n ≤ 1048576)
theorem side_any (n : Int) (w : World) : Calls Try.prog 31 #[.int .i64 n] w fun e w' => e = .returned (.bool (sideB n)) ∧ w = w' := by
  by_cases h : 1 ≤ n
  · have g : decide (1 ≤ n) = true := by simpa using h
    have H := Lib.hid (show sideB n = decide (n ≤ 1048576) by unfold sideB; rw [g]; rfl)
    go_enter Try.func31, Try.ntmps31
    go_wp2
    go_ret
    exact ⟨by rw [H.out]; rfl, rfl⟩
  · have g : decide (1 ≤ n) = false := by simpa using h
    have H := Lib.hid (show sideB n = false by unfold sideB; rw [g]; rfl)
    go_enter Try.func31, Try.ntmps31
    go_wp2
    go_ret
    exact ⟨by rw [H.out]; rfl, rfl⟩
def rightB (r c : Int) (n : Nat) : Bool := sideB r && (sideB c && decide ((n : Int) = r * c))
theorem right_some {r c : Int} {n : Nat} (h : rightB r c n = true) : 1 ≤ r ∧ r ≤ 1048576 ∧ 1 ≤ c ∧ c ≤ 1048576 ∧ (n : Int) = r * c := by
  unfold rightB sideB at h
  simp only [Bool.and_eq_true, decide_eq_true_eq] at h
  omega
set_option maxHeartbeats 1000000 in
theorem mright_any (r c : Int) (a : Option Addr) (n cap : Nat) (w : World) :
    Calls Try.prog 13 #[.agg #[.int .i64 r, .int .i64 c, .slice a n cap]] w fun e w' => e = .returned (.bool (rightB r c n)) ∧ Below w.heap.size w w' := by
  have AL := (Below.refl w.heap.size w).alloc (Nat.le_refl _) (.cells #[.int .i64 r, .int .i64 c, .slice a n cap] 29)
  have S1 := Lib.hid (fun W => side_any r W)
  have S2 := Lib.hid (fun W => side_any c W)
  cases h1 : sideB r
  · have H := Lib.hid (show rightB r c n = false by unfold rightB; rw [h1]; rfl)
    rw [h1] at S1
    clear h1
    go_enter Try.func13, Try.ntmps13
    go_wp2_with fail
    refine (S1.out _).mono ?_
    rintro e w1 ⟨rfl, rfl⟩
    go_wp2_with fail
    go_ret
    exact ⟨by rw [H.out]; rfl, AL⟩
  · cases h2 : sideB c
    · have H := Lib.hid (show rightB r c n = false by unfold rightB; rw [h1, h2]; rfl)
      rw [h1] at S1
      rw [h2] at S2
      clear h1 h2
      go_enter Try.func13, Try.ntmps13
      go_wp2_with fail
      refine (S1.out _).mono ?_
      rintro e w1 ⟨rfl, rfl⟩
      go_wp2_with fail
      refine (S2.out _).mono ?_
      rintro e w1 ⟨rfl, rfl⟩
      go_wp2_with fail
      go_ret
      exact ⟨by rw [H.out]; rfl, AL⟩
    · have H := Lib.hid (show rightB r c n = decide ((n : Int) = r * c) by unfold rightB; rw [h1, h2]; rfl)
      have b1 : 1 ≤ r ∧ r ≤ 1048576 := by unfold sideB at h1; simpa using h1
      have b2 : 1 ≤ c ∧ c ≤ 1048576 := by unfold sideB at h2; simpa using h2
      have p0 := Int.mul_nonneg (show 0 ≤ r by omega) (show 0 ≤ c by omega)
      have p1 : r * c ≤ 1048576 * 1048576 := Int.mul_le_mul b1.2 b2.2 (by omega) (by omega)
      have wk : IntKind.i64.wrap (r * c) = r * c := IntWalk.i64_in _ (by omega)
      rw [h1] at S1
      rw [h2] at S2
      clear h1 h2
      go_enter Try.func13, Try.ntmps13
      go_wp2_with fail
      refine (S1.out _).mono ?_
      rintro e w1 ⟨rfl, rfl⟩
      go_wp2_with fail
      refine (S2.out _).mono ?_
      rintro e w1 ⟨rfl, rfl⟩
      go_wp2_with fail
      go_ret
      exact ⟨by rw [H.out]; first | rfl | (simp; done), AL⟩
theorem few_any (r c : Int) (a : Option Addr) (n cap : Nat) (w : World) :
    Calls Try.prog 8 #[.agg #[.int .i64 r, .int .i64 c, .slice a n cap]] w fun e w' => e = .returned (.bool (decide (n ≤ 600))) ∧ Below w.heap.size w w' := by
  have AL := (Below.refl w.heap.size w).alloc (Nat.le_refl _) (.cells #[.int .i64 r, .int .i64 c, .slice a n cap] 24)
  go_enter Try.func8, Try.ntmps8
  go_wp2_with fail
  go_ret
  exact ⟨by first | rfl | (simp; done) | (simp; omega), AL⟩
set_option maxHeartbeats 1000000 in
theorem refRight_any (r c : Int) (a : Option Addr) (n cap : Nat) (w : World) :
    Calls Try.prog 12 #[.agg #[.int .i64 r, .int .i64 c, .slice a n cap]] w fun e w' => e = .returned (.bool (rightB r c n)) ∧ Below w.heap.size w w' := by
  have AL := (Below.refl w.heap.size w).alloc (Nat.le_refl _) (.cells #[.int .i64 r, .int .i64 c, .slice a n cap] 24)
  by_cases hr : 1 ≤ r ∧ r ≤ 1048576
  · by_cases hc : 1 ≤ c ∧ c ≤ 1048576
    · have g1 : decide (1 ≤ r) = true := by simpa using hr.1
      have g2 : decide (r ≤ 1048576) = true := by simpa using hr.2
      have g3 : decide (1 ≤ c) = true := by simpa using hc.1
      have g4 : decide (c ≤ 1048576) = true := by simpa using hc.2
      have H := Lib.hid (show rightB r c n = decide ((n : Int) = r * c) by unfold rightB sideB; rw [g1, g2, g3, g4]; rfl)
      have p0 := Int.mul_nonneg (show 0 ≤ r by omega) (show 0 ≤ c by omega)
      have p1 : r * c ≤ 1048576 * 1048576 := Int.mul_le_mul hr.2 hc.2 (by omega) (by omega)
      have wk : IntKind.i64.wrap (r * c) = r * c := IntWalk.i64_in _ (by omega)
      go_enter Try.func12, Try.ntmps12
      go_wp2_with fail
      go_ret
      exact ⟨by rw [H.out]; first | rfl | (simp; done), AL⟩
    · have H := Lib.hid (show rightB r c n = false by
        unfold rightB
        rw [show sideB c = false by unfold sideB; simp; omega]
        simp)
      have h' : ¬ 1 ≤ c ∨ 1 ≤ c ∧ ¬ c ≤ 1048576 := by omega
      clear hc
      obtain ⟨r1, r2⟩ := hr
      rcases h' with h | h
      all_goals
        go_enter Try.func12, Try.ntmps12
        go_wp2_with fail
        go_ret
        exact ⟨by rw [H.out]; rfl, AL⟩
  · have H := Lib.hid (show rightB r c n = false by
      unfold rightB
      rw [show sideB r = false by unfold sideB; simp; omega]
      rfl)
    have h' : ¬ 1 ≤ r ∨ 1 ≤ r ∧ ¬ r ≤ 1048576 := by omega
    clear hr
    rcases h' with h | h
    all_goals
      go_enter Try.func12, Try.ntmps12
      go_wp2_with fail
      go_ret
      exact ⟨by rw [H.out]; rfl, AL⟩
theorem given_any (r c : Int) (v : Value) (hv : ∃ a n cap, v = .slice a n cap) (w : World) :
    Calls Try.prog 10 #[.agg #[.int .i64 r, .int .i64 c, v]] w fun e w' => e = .returned (.agg #[.int .i64 r, .int .i64 c, v]) ∧ Below w.heap.size w w' := by
  obtain ⟨a, n, cap, rfl⟩ := hv
  have AL := ((Below.refl w.heap.size w).alloc (Nat.le_refl _) (.cells #[.int .i64 r, .int .i64 c, .slice a n cap] 24))
  have AL2 := below_alloc (o := .cells #[.int .i64 r, .int .i64 c, .slice a n cap] 29) AL
  have hs : (w.alloc (.cells #[.int .i64 r, .int .i64 c, .slice a n cap] 24)).heap.size = w.heap.size + 1 := by simp
  have c0 := cell_new (w.alloc (.cells #[.int .i64 r, .int .i64 c, .slice a n cap] 24)) #[.int .i64 r, .int .i64 c, .slice a n cap] 29 0
  have c1 := cell_new (w.alloc (.cells #[.int .i64 r, .int .i64 c, .slice a n cap] 24)) #[.int .i64 r, .int .i64 c, .slice a n cap] 29 1
  have c2 := cell_new (w.alloc (.cells #[.int .i64 r, .int .i64 c, .slice a n cap] 24)) #[.int .i64 r, .int .i64 c, .slice a n cap] 29 2
  rw [hs] at c0 c1 c2
  go_enter Try.func10, Try.ntmps10
  go_wp2_with fail
  (try simp only [Exit.inBlock, Exit.then])
  refine bodyPost_ret (v := .agg #[.int .i64 r, .int .i64 c, .slice a n cap]) (by simp [results, Try.results10, c0, c1, c2, go_sem]) rfl ⟨rfl, AL2⟩
theorem back_any (r c : Int) (v : Value) (hv : ∃ a n cap, v = .slice a n cap) (w : World) :
    Calls Try.prog 15 #[.agg #[.int .i64 r, .int .i64 c, v]] w fun e w' => e = .returned (.agg #[.int .i64 r, .int .i64 c, v]) ∧ Below w.heap.size w w' := by
  obtain ⟨a, n, cap, rfl⟩ := hv
  have AL := ((Below.refl w.heap.size w).alloc (Nat.le_refl _) (.cells #[.int .i64 r, .int .i64 c, .slice a n cap] 29))
  have AL2 := below_alloc (o := .cells #[.int .i64 r, .int .i64 c, .slice a n cap] 24) AL
  have hs : (w.alloc (.cells #[.int .i64 r, .int .i64 c, .slice a n cap] 29)).heap.size = w.heap.size + 1 := by simp
  have c0 := cell_new (w.alloc (.cells #[.int .i64 r, .int .i64 c, .slice a n cap] 29)) #[.int .i64 r, .int .i64 c, .slice a n cap] 24 0
  have c1 := cell_new (w.alloc (.cells #[.int .i64 r, .int .i64 c, .slice a n cap] 29)) #[.int .i64 r, .int .i64 c, .slice a n cap] 24 1
  have c2 := cell_new (w.alloc (.cells #[.int .i64 r, .int .i64 c, .slice a n cap] 29)) #[.int .i64 r, .int .i64 c, .slice a n cap] 24 2
  rw [hs] at c0 c1 c2
  go_enter Try.func15, Try.ntmps15
  go_wp2_with fail
  (try simp only [Exit.inBlock, Exit.then])
  refine bodyPost_ret (v := .agg #[.int .i64 r, .int .i64 c, .slice a n cap]) (by simp [results, Try.results15, c0, c1, c2, go_sem]) rfl ⟨rfl, AL2⟩
end Go.Proofs.Ytinflmjombcolaa
