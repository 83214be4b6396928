/- Layer 17: two tags are equal exactly if their numbers are. -/
import Derived.Test.YtffgcloacdpfaaaDoorTagOw
namespace Go.Proofs.YtffgcloacdpfaaaDoor
open Go.RowKit
set_option linter.unusedVariables false
theorem equalIn_tag (a b c d e_ p q r s t : Int) (w : World) : (Op.equalIn 10000 23 (.agg #[.int .i64 a, .int .i64 b, .int .i64 c, .int .i64 d, .int .i64 e_]) (.agg #[.int .i64 p, .int .i64 q, .int .i64 r, .int .i64 s, .int .i64 t])).run Tryd.prog w = .ok (tagXs a b c d e_ == tagXs p q r s t) w := by
  rw [run_equalIn_agg w 9999 23 _ _ (by kernel_rfl) (by kernel_rfl)]
  have hpart : ∀ (xs : Array Value) (i : Nat) (x : Value), xs[i]? = some x → (part 3 xs i).run Tryd.prog w = .ok x w := by
    intro xs i x h
    simp [part, isAgg, run_underlying Tryd.underlying3, h]
  have hE : ∀ x y : Int, (Op.equalIn 9999 3 (.int .i64 x) (.int .i64 y)).run Tryd.prog w = .ok (x == y) w := fun x y => run_equalIn_int w 9998 3 .i64 .i64 x y Tryd.underlying3
  simp only [Program.fieldsOf, Tryd.underlying23]
  have g := fun (i : Nat) (x : Value) => hpart #[.int .i64 a, .int .i64 b, .int .i64 c, .int .i64 d, .int .i64 e_] i x
  have k := fun (i : Nat) (x : Value) => hpart #[.int .i64 p, .int .i64 q, .int .i64 r, .int .i64 s, .int .i64 t] i x
  have g0 := g 0 (.int .i64 a) rfl
  have g1 := g 1 (.int .i64 b) rfl
  have g2 := g 2 (.int .i64 c) rfl
  have g3 := g 3 (.int .i64 d) rfl
  have g4 := g 4 (.int .i64 e_) rfl
  have k0 := k 0 (.int .i64 p) rfl
  have k1 := k 1 (.int .i64 q) rfl
  have k2 := k 2 (.int .i64 r) rfl
  have k3 := k 3 (.int .i64 s) rfl
  have k4 := k 4 (.int .i64 t) rfl
  clear hpart g k
  simp only [Op.eqFields, ne_eq, String.reduceEq, not_false_eq_true, if_true, Sem.run_bind, Sem.run_ite, g0, g1, g2, g3, g4, k0, k1, k2, k3, k4, hE, Result.andThen_ok, Sem.run_pure]
  clear g0 g1 g2 g3 g4 k0 k1 k2 k3 k4 hE
  unfold tagXs
  by_cases h0 : a = p
  · by_cases h1 : b = q
    · by_cases h2 : c = r
      · by_cases h3 : d = s
        · by_cases h4 : e_ = t
          · simp [h0, h1, h2, h3, h4]
          · simp [h0, h1, h2, h3, h4]
        · simp [h0, h1, h2, h3]
      · simp [h0, h1, h2]
    · simp [h0, h1]
  · simp [h0]
theorem eql_tag (a b c d e_ p q r s t : Int) (w : World) : (binOp .eql 23 (.agg #[.int .i64 a, .int .i64 b, .int .i64 c, .int .i64 d, .int .i64 e_]) (.agg #[.int .i64 p, .int .i64 q, .int .i64 r, .int .i64 s, .int .i64 t])).run Tryd.prog w = .ok (.bool (tagXs a b c d e_ == tagXs p q r s t)) w := by
  rw [run_eql_struct, equalIn_tag]
  rfl
end Go.Proofs.YtffgcloacdpfaaaDoor
