/- The example that each statement looks at; the hashes. -/
import Derived.Test.YtinflmjombcolaaVecS
namespace Go.Proofs.Ytinflmjombcolaa
open Go.RowKit
set_option linter.unusedVariables false
/-- a new slice of slices -/
theorem RowsAt.fresh {q : IntKind} {w : World} {cs : Array Value} {e : TypeId} {zss : List (List Int)} (hl : cs.toList.length = zss.length) (h : ∀ (j : Nat) (u : Value) (zs : List Int), cs.toList[j]? = some u → zss[j]? = some zs → IntsW q w.heap.size w u zs) :
    RowsAt q (w.alloc (.cells cs e)).heap.size (w.alloc (.cells cs e)) (.slice (some ⟨w.heap.size, 0, none⟩) zss.length zss.length) zss := by
  refine ⟨cs.toList, hl, SliceAt.fresh (by rw [hl]; omega) rfl, fun j u zs hu hz => ?_⟩
  have hb := (Below.refl w.heap.size w).alloc (Nat.le_refl _) (.cells cs e)
  exact ((h j u zs hu hz).below hb).grow hb.size
theorem rows_two {q : IntKind} {w : World} {u1 u2 : Value} {e : TypeId} {z1 z2 : List Int} (h1 : IntsW q w.heap.size w u1 z1) (h2 : IntsW q w.heap.size w u2 z2) :
    RowsAt q (w.alloc (.cells #[u1, u2] e)).heap.size (w.alloc (.cells #[u1, u2] e)) (.slice (some ⟨w.heap.size, 0, none⟩) 2 2) [z1, z2] := by
  refine RowsAt.fresh (zss := [z1, z2]) rfl fun j u zs hu hz => ?_
  rcases j with _ | _ | j
  · cases hu; cases hz; exact h1
  · cases hu; cases hz; exact h2
  · simp at hu
theorem rows_one {q : IntKind} {w : World} {u1 : Value} {e : TypeId} {z1 : List Int} (h1 : IntsW q w.heap.size w u1 z1) :
    RowsAt q (w.alloc (.cells #[u1] e)).heap.size (w.alloc (.cells #[u1] e)) (.slice (some ⟨w.heap.size, 0, none⟩) 1 1) [z1] := by
  refine RowsAt.fresh (zss := [z1]) rfl fun j u zs hu hz => ?_
  rcases j with _ | j
  · cases hu; cases hz; exact h1
  · simp at hu
end Go.Proofs.Ytinflmjombcolaa
