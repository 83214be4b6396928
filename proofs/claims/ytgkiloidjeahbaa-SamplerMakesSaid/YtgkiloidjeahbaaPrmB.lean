/- Layer 6: an exchange. -/
import Derived.Test.YtgkiloidjeahbaaProg
import Derived.Test.YtgkiloidjeahbaaShelf
import Derived.ProofKit
import Derived.BigRegion
import Derived.Test.YtgkiloidjeahbaaGen
import Derived.Test.YtgkiloidjeahbaaPrmM
namespace Go.Proofs.Ytgkiloidjeahbaa
open Go.RowKit
set_option linter.unusedVariables false
def Swapped (g i j : Nat) (x y : Int) (w : World) (e : Ending) (w' : World) : Prop :=
  e = .returned (.tuple #[]) ∧ w' = ((w.setCell ⟨g, i, none⟩ (.int .i64 y)).setCell ⟨g, j, none⟩ (.int .i64 x)).drew
set_option maxHeartbeats 1000000 in
theorem exchange_any (Bb g n c i j : Nat) (x y : Int) (hi : i < n) (hj : j < n) (w : World) (hn : n ≤ 1048576) (hne : Bb ≠ g)
    (hb : w.cell? ⟨Bb, 0, none⟩ = some (.slice (some ⟨g, 0, none⟩) n c)) (ci : w.cell? ⟨g, i, none⟩ = some (.int .i64 x)) (cj : w.cell? ⟨g, j, none⟩ = some (.int .i64 y))
    (fi : w.frozen? ⟨g, i, none⟩ = false) (fj : w.frozen? ⟨g, j, none⟩ = false) :
    Calls Try.prog 35 #[.int .i64 i, .int .i64 j, .pointer (some ⟨Bb, 0, none⟩)] w (Swapped g i j x y w) := by
  have hBb := World.block_lt_of_cell? _ _ hb
  have hg := World.block_lt_of_cell? _ _ ci
  have i0 : (0 : Int) ≤ (i : Int) := by omega
  have i1 : (i : Int) < (n : Int) := by omega
  have j0 : (0 : Int) ≤ (j : Int) := by omega
  have j1 : (j : Int) < (n : Int) := by omega
  have hb' := (World.cell?_setCell_other w ⟨g, i, none⟩ ⟨Bb, 0, none⟩ (.int .i64 y) (by simp)).trans hb
  obtain ⟨z, cz⟩ : ∃ z, (w.setCell ⟨g, i, none⟩ (.int .i64 y)).cell? ⟨g, j, none⟩ = some z := by
    by_cases e : j = i
    · subst e; exact ⟨_, World.cell?_setCell_same _ _ _ ci⟩
    · exact ⟨_, (World.cell?_setCell_other _ _ _ _ (by simp)).trans cj⟩
  go_enter Try.func35, Try.ntmps35
  go_wp2_with fail
  go_region
  go_wp2
  go_end0
  exact ⟨rfl, rfl⟩
end Go.Proofs.Ytgkiloidjeahbaa
