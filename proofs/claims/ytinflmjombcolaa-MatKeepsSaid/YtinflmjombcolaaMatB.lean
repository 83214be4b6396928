/- Layer 7: a row of a matrix. -/
import Derived.Test.YtinflmjombcolaaMatA
namespace Go.Proofs.Ytinflmjombcolaa
open Go.RowKit
set_option linter.unusedVariables false
set_option maxHeartbeats 1000000 in
theorem row_any (R C i n cap b off : Nat) (hC0 : 1 ≤ C) (hC : C ≤ 1048576) (hR : R ≤ 1048576) (hn : n = R * C) (hm : n ≤ 1048576) (hcap : n ≤ cap) (hi : i < R) (w : World) :
    Calls Try.prog 32 #[.agg #[.int .i64 R, .int .i64 C, .slice (some ⟨b, off, none⟩) n cap], .int .i64 i] w fun e w' => e = .returned (.slice (some ⟨b, off + i * C, none⟩) C C) ∧ Below w.heap.size w w' := by
  have AL := Lib.hid (fun q => below_drewN ((Below.refl w.heap.size w).alloc (Nat.le_refl _) (.cells #[.int .i64 R, .int .i64 C, .slice (some ⟨b, off, none⟩) n cap] 29)) q)
  have c2 := Lib.hid (fun q => (show ((w.alloc (.cells #[.int .i64 R, .int .i64 C, .slice (some ⟨b, off, none⟩) n cap] 29)).drewN q).cell? ⟨w.heap.size, 2, none⟩ = some (.slice (some ⟨b, off, none⟩) n cap) from cell_new w #[.int .i64 R, .int .i64 C, .slice (some ⟨b, off, none⟩) n cap] 29 2))
  have k1 : (i + 1) * C ≤ n := by rw [hn]; exact Nat.mul_le_mul_right C (by omega)
  have k2 : (i + 1) * C = i * C + C := Nat.succ_mul i C
  have e1 : (i : Int) * (C : Int) = ((i * C : Nat) : Int) := by simp
  have e2 : ((i : Int) + 1) * (C : Int) = (((i + 1) * C : Nat) : Int) := by simp
  have w1 : IntKind.i64.wrap ((i : Int) * C) = ((i * C : Nat) : Int) := by rw [e1]; exact IntWalk.i64_in _ (by omega)
  have w2 : IntKind.i64.wrap ((i : Int) + 1) = (i : Int) + 1 := IntWalk.i64_in _ (by omega)
  have w3 : IntKind.i64.wrap (((i : Int) + 1) * C) = (((i + 1) * C : Nat) : Int) := by rw [e2]; exact IntWalk.i64_in _ (by omega)
  generalize hx : i * C = x at *
  generalize hy : (i + 1) * C = y at *
  have hsl : ∀ W, (Instr.slice 27 (.slice (some ⟨b, off, none⟩) n cap) (some (.int .i64 (x : Int))) (some (.int .i64 (y : Int))) (some (.int .i64 (y : Int)))).run Try.prog W = .ok (.slice (some ⟨b, off + x, none⟩) C C) W := fun W => by
    rw [run_slice_lhm W 27 _ n cap (by first | exact Try.underlying27 | kernel_rfl) .i64 .i64 .i64 x y y (by omega) (by omega) (by omega) (by omega)]
    rw [show (sizeOf (Try.prog.elem 27)).run Try.prog W = .ok 1 W from by first | exact Try.sizeOf2 W | kernel_rfl]
    show Result.ok (sliced _ _ _ _ _) W = _
    rw [Int.toNat_natCast, Int.toNat_natCast]
    unfold sliced
    rw [if_neg (by omega), Nat.mul_one, show y - x = C by omega, Option.map_some, Go.WideShapes.add_plain]
  clear hn hx hy k2 k1 e1 e2
  go_enter Try.func32, Try.ntmps32
  go_wp2_with fail
  go_quiet (fail)
  have B := Lib.hid (AL.out nq)
  have c2' := c2.out nq
  generalize (World.drewN _ nq) = W2 at *
  go_wp2_with fail
  go_ret
  exact ⟨rfl, B.out⟩
end Go.Proofs.Ytinflmjombcolaa
