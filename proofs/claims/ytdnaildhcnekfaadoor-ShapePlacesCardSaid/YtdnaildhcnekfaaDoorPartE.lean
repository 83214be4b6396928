/- part.Even: its ranges are those of the even division, in a slice of the call's own. -/
import Derived.Test.YtdnaildhcnekfaaDoorProg
import Derived.Test.YtdnaildhcnekfaaDoorPartM
import Derived.ProofKit
import Derived.Outline
namespace Go.Proofs.YtdnaildhcnekfaaDoor
open Go.RowKit
theorem elemPR : Elem Tryd.prog 38 35 (.agg #[.int .i64 0, .int .i64 0]) 2 16 := ⟨Tryd.underlying38, info_parts (by kernel_rfl), rfl, by decide⟩
theorem elemI : Elem Tryd.prog 22 3 (.int .i64 0) 1 8 := ⟨Tryd.underlying22, info_parts (by kernel_rfl), rfl, by decide⟩
theorem set_pair (A : List Value) (m i : Nat) (x y z : Value) (h : A.length = i * 2) : ((A ++ List.replicate (m + 2) z).set (i * 2) x).set (i * 2 + 1) y = A ++ [x, y] ++ List.replicate m z := by
  rw [List.set_append_right _ _ (by omega), List.set_append_right _ _ (by omega), h, show i * 2 - i * 2 = 0 by omega, show i * 2 + 1 - i * 2 = 1 by omega]
  simp [List.replicate_succ]
theorem own_pair {wr : World} {base g k cap n i m : Nat} {e : TypeId} {A : List Value} {x y z : Value} (h : wr.ownsRow base e 2 (.slice (some ⟨g, 0, none⟩) n cap) n (A ++ List.replicate k z)) (hA : A.length = i * 2) (hm : k = m + 2) :
    ((wr.setCell ⟨g, i * 2, none⟩ x).setCell ⟨g, i * 2 + 1, none⟩ y).ownsRow base e 2 (.slice (some ⟨g, 0, none⟩) n cap) n (A ++ [x, y] ++ List.replicate m z) := by
  have h2 := ((h.stored (i * 2) x).1.stored (i * 2 + 1) y).1
  subst hm
  rw [set_pair A m i x y z hA] at h2
  exact h2
/-- what a round of such a loop leaves -/
theorem pair_done {w wr : World} {g k i n : Nat} {e : TypeId} {rs : List (Int × Int)} {lo hi : Int} (h : wr.ownsRow w.heap.size e 2 (.slice (some ⟨g, 0, none⟩) k n) k (rcells rs ++ List.replicate ((k - i) * 2) (.int .i64 0))) (hl : rs.length = i) (hi' : i < k) :
    ((wr.setCell ⟨g, i * 2, none⟩ (.int .i64 lo)).setCell ⟨g, i * 2 + 1, none⟩ (.int .i64 hi)).ownsRow w.heap.size e 2 (.slice (some ⟨g, 0, none⟩) k n) k (rcells (rs ++ [(lo, hi)]) ++ List.replicate ((k - (i + 1)) * 2) (.int .i64 0)) := by
  rw [rcells_snoc]
  exact own_pair h (by rw [rcells_length, hl]) (by omega)
theorem pair_below {w wr : World} {i : Nat} {x y : Value} (h : Below w.heap.size w wr) : Below w.heap.size w ((wr.setCell ⟨w.heap.size, i * 2, none⟩ x).setCell ⟨w.heap.size, i * 2 + 1, none⟩ y) :=
  (h.setCell (p := ⟨w.heap.size, i * 2, none⟩) (Nat.le_refl _) _).setCell (p := ⟨w.heap.size, i * 2 + 1, none⟩) (Nat.le_refl _) _
end Go.Proofs.YtdnaildhcnekfaaDoor
