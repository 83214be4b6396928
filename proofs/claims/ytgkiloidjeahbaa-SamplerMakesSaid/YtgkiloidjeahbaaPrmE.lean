/- Layer 6: the chapter's example, equal lists, PermComposes. -/
import Derived.Test.YtgkiloidjeahbaaPrmD
namespace Go.Proofs.Ytgkiloidjeahbaa
open Go.RowKit
set_option linter.unusedVariables false
theorem equal_same (v u : Value) (zs : List Int) (hl : zs.length ≤ 9223372036854775807) (n₁ n₂ : Nat) (w : World) (hv : IntsAt .i64 n₁ w v zs) (hu : IntsAt .i64 n₂ w u zs) :
    Calls Try.prog 10 #[v, u] w fun e w' => e = .returned (.bool true) ∧ Below w.heap.size w w' := by
  rcases Nat.eq_zero_or_pos zs.length with h0 | h0
  · have hz := List.length_eq_zero_iff.1 h0
    subst hz
    obtain ⟨a, c, rfl⟩ := (show ∃ a c, v = .slice a 0 c by rcases hv.form with ⟨rfl, _⟩ | ⟨b, off, cap, rfl, _⟩ <;> exact ⟨_, _, rfl⟩)
    obtain ⟨a', c', rfl⟩ := (show ∃ a c, u = .slice a 0 c by rcases hu.form with ⟨rfl, _⟩ | ⟨b, off, cap, rfl, _⟩ <;> exact ⟨_, _, rfl⟩)
    refine (Try.slices_Equal_int_empty a a' c 0 c' w (by omega)).mono ?_
    rintro e w' ⟨rfl, rfl⟩
    exact ⟨rfl, Below.refl _ _⟩
  · rcases hv.form with ⟨_, rfl⟩ | ⟨b, off, cap, rfl, hc, hb, hcs⟩
    · simp at h0
    rcases hu.form with ⟨_, rfl⟩ | ⟨b', off', cap', rfl, hc', hb', hcs'⟩
    · simp at h0
    refine (Try.slices_Equal_int b off zs.length cap b' off' zs.length cap' zs zs w (Nat.le_refl _) (Nat.le_refl _) hl hl (fun j hj => by rw [hcs j hj]; simp) (fun j hj => by rw [hcs' j hj]; simp)).mono ?_
    rintro e w' ⟨rfl, q, rfl⟩
    exact ⟨by simp, below_drewN (Below.refl _ _) q⟩
def orL (ok : Bool) (l : List Int) : List Int := if ok then l else []
def ListOk (ok : Bool) (l : List Int) (w : World) (e : Ending) (w' : World) : Prop :=
  ∃ v, e = .returned (.tuple #[v, .bool ok]) ∧ w'.ownsRow w.heap.size 3 1 v (orL ok l).length ((orL ok l).map (Value.int .i64)) ∧ Below w.heap.size w w'
theorem ListOr.ok {ok : Bool} {l : List Int} {w : World} {e : Ending} {w' : World} (h : ListOr ok l w e w') : ListOk ok l w e w' := by
  unfold ListOr at h
  cases ok
  · exact ⟨_, h.1, World.ownsRow_nil _ _ _ _, h.2⟩
  · obtain ⟨v, h1, h2, h3⟩ := h
    exact ⟨v, h1, h2, h3⟩
theorem orL_length (ok : Bool) (l : List Int) : (orL ok l).length ≤ l.length := by
  unfold orL
  split <;> simp
end Go.Proofs.Ytgkiloidjeahbaa
