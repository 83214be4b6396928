/- Layer 7: Mul where there is no product. -/
import Derived.Test.YtinflmjombcolaaMatI
namespace Go.Proofs.Ytinflmjombcolaa
open Go.RowKit Go.Shelf
set_option linter.unusedVariables false
def mulB (r c : Int) (n k : Nat) : Bool := rightB r c n && decide ((k : Int) = c)
set_option maxHeartbeats 1000000 in
theorem mul_no (r c : Int) (a a' : Option Addr) (n cap k cap' : Nat) (q : Int) (h : mulB r c n k = false) (w : World) :
    Calls Try.prog 20 #[.agg #[.int .i64 r, .int .i64 c, .slice a n cap], .slice a' k cap', .int .i64 q] w fun e w' => e = .returned (.tuple #[.slice none 0 0, .bool false]) ∧ Below w.heap.size w w' := by
  have AL1 := (Below.refl w.heap.size w).alloc (Nat.le_refl _) (.cells #[.int .i64 r, .int .i64 c, .slice a n cap] 29)
  have AL2 := below_alloc (o := .cells #[.slice a' k cap'] 27) AL1
  have AL3 := Lib.hid (below_alloc (o := .cells #[.int .i64 q] 3) AL2)
  have HR := Lib.hid (fun W => mright_any r c a n cap W)
  have al2 := (Below.refl (w.alloc (.cells #[.int .i64 r, .int .i64 c, .slice a n cap] 29)).heap.size (w.alloc (.cells #[.int .i64 r, .int .i64 c, .slice a n cap] 29))).alloc (Nat.le_refl _) (.cells #[.slice a' k cap'] 27)
  have al3 := (Below.refl ((w.alloc (.cells #[.int .i64 r, .int .i64 c, .slice a n cap] 29)).alloc (.cells #[.slice a' k cap'] 27)).heap.size ((w.alloc (.cells #[.int .i64 r, .int .i64 c, .slice a n cap] 29)).alloc (.cells #[.slice a' k cap'] 27))).alloc (Nat.le_refl _) (.cells #[.int .i64 q] 3)
  have c0 := cell_step al3 (cell_step al2 ((cell_new w #[.int .i64 r, .int .i64 c, .slice a n cap] 29 0).trans rfl))
  have c1 := cell_step al3 (cell_step al2 ((cell_new w #[.int .i64 r, .int .i64 c, .slice a n cap] 29 1).trans rfl))
  have c2 := cell_step al3 (cell_step al2 ((cell_new w #[.int .i64 r, .int .i64 c, .slice a n cap] 29 2).trans rfl))
  have x0 := cell_step al3 ((cell_new (w.alloc (.cells #[.int .i64 r, .int .i64 c, .slice a n cap] 29)) #[.slice a' k cap'] 27 0).trans rfl)
  have hs : (w.alloc (.cells #[.int .i64 r, .int .i64 c, .slice a n cap] 29)).heap.size = w.heap.size + 1 := by simp
  rw [hs] at x0
  have HC := Lib.hid (And.intro c1 (And.intro x0 (And.intro c0 c2)))
  clear AL1 AL2 al2 al3 c0 c1 c2 x0 hs
  cases hr : rightB r c n
  · rw [hr] at HR
    clear hr h
    go_enter Try.func20, Try.ntmps20
    go_upto_region 1 with fail
    generalize (((w.alloc (.cells #[.int .i64 r, .int .i64 c, .slice a n cap] 29)).alloc (.cells #[.slice a' k cap'] 27)).alloc (.cells #[.int .i64 q] 3)) = W3 at *
    have k0 := HC.out.2.2.1
    have k1 := HC.out.1
    have k2 := HC.out.2.2.2
    go_wp2_with fail
    refine (HR.out _).mono ?_
    rintro e w1 ⟨rfl, b1⟩
    have B1 := Lib.hid (below_step AL3.out b1)
    clear b1
    go_wp2_with fail
    go_ret2
    exact ⟨rfl, B1.out⟩
  · have hne : ¬ (k : Int) = c := by
      unfold mulB at h
      rw [hr] at h
      simpa using h
    have g : ((k : Int) != c) = true := by simpa using hne
    rw [hr] at HR
    clear hr h hne
    go_enter Try.func20, Try.ntmps20
    go_upto_region 1 with fail
    generalize (((w.alloc (.cells #[.int .i64 r, .int .i64 c, .slice a n cap] 29)).alloc (.cells #[.slice a' k cap'] 27)).alloc (.cells #[.int .i64 q] 3)) = W3 at *
    have k0 := HC.out.2.2.1
    have k1 := HC.out.1
    have k2 := HC.out.2.2.2
    go_wp2_with fail
    refine (HR.out _).mono ?_
    rintro e w1 ⟨rfl, b1⟩
    have B1 := Lib.hid (below_step AL3.out b1)
    have d1 := cell_step b1 HC.out.1
    have d2 := cell_step b1 HC.out.2.1
    clear b1
    go_wp2_with fail
    go_ret2
    exact ⟨rfl, B1.out⟩
end Go.Proofs.Ytinflmjombcolaa
