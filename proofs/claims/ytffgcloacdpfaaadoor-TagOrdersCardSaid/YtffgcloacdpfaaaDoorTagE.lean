/- Two numbers that are the same are equal, as arrays. -/
import Derived.Test.YtffgcloacdpfaaaDoorTagU
import Derived.Laws.StructEq
import Derived.Stop.BytesEq
namespace Go.Proofs.YtffgcloacdpfaaaDoor
open Go.RowKit
theorem equalIn_words {P : Program} (w : World) (d : Nat) (t e : TypeId) (n : Nat) (ht : P.underlying t = some (.array n e)) (he : P.underlying e = some (.int .u64)) (hsz : ∀ w, (sizeOf e).run P w = .ok 1 w)
    (xs : List Int) (hx : xs.length = n) :
    (Op.equalIn (d + 2) t (.agg (xs.map (Value.int .u64)).toArray) (.agg (xs.map (Value.int .u64)).toArray)).run P w = .ok true w := by
  rw [Op.equalIn]
  simp only [Sem.run_bind, run_underlying ht, Result.andThen_ok, hsz, Std.Legacy.Range.forIn_eq_forIn_range', Std.Legacy.Range.size, Nat.sub_zero, Nat.add_sub_cancel, Nat.div_one]
  have hl : ∀ i ∈ List.range' 0 n 1, i < n := fun i hi => by simpa using (List.mem_range'_1.1 hi).2
  generalize List.range' 0 n 1 = l at hl ⊢
  induction l with
  | nil => simp
  | cons i l ih =>
    have hi : i < n := hl i (by simp)
    have px : (part e (xs.map (Value.int .u64)).toArray (i * 1)).run P w = .ok (.int .u64 (xs.getD i 0)) w := by
      simp [part, isAgg, run_underlying he, List.getD, List.getElem?_eq_getElem (show i < xs.length by omega)]
    have pe : (Op.equalIn (d + 1) e (.int .u64 (xs.getD i 0)) (.int .u64 (xs.getD i 0))).run P w = .ok true w := by
      rw [run_equalIn_int w d e .u64 .u64 _ _ he]
      simp
    simp only [List.forIn_cons, Sem.run_bind, px, pe, Result.andThen_ok]
    simp only [Bool.not_true, Bool.false_eq_true, if_false, Sem.run_pure, Result.andThen_ok]
    exact ih fun j hj => hl j (by simp [hj])
theorem eql_two (U V : Int) (w : World) : (binOp .eql 25 (.agg #[.int .u64 U, .int .u64 V]) (.agg #[.int .u64 U, .int .u64 V])).run Tryd.prog w = .ok (.bool true) w := by
  have h := equalIn_words (P := Tryd.prog) w 9998 25 24 2 Tryd.underlying25 Tryd.underlying24 (by intro W; kernel_rfl) [U, V] rfl
  rw [run_eql_struct]
  exact (congrArg (fun r => Result.andThen r fun b w' => Result.ok (Value.bool b) w') h)
theorem equalIn_two (U V : Int) (w : World) : (Op.equalIn 10000 25 (.agg #[.int .u64 U, .int .u64 V]) (.agg #[.int .u64 U, .int .u64 V])).run Tryd.prog w = .ok true w :=
  equalIn_words (P := Tryd.prog) w 9998 25 24 2 Tryd.underlying25 Tryd.underlying24 (by intro W; kernel_rfl) [U, V] rfl
end Go.Proofs.YtffgcloacdpfaaaDoor
