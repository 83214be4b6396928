/- Layer 6: Compose, and the reference's. -/
import Derived.Test.YtgkiloidjeahbaaPrmA
import Derived.Test.YtgkiloidjeahbaaPrmC
namespace Go.Proofs.Ytgkiloidjeahbaa
open Go.RowKit
set_option linter.unusedVariables false
def mkP (f : Nat → Int) (n k : Nat) : List Int := (List.range n).map fun (i : Nat) => if i < k then f i else 0
theorem mkP_length (f : Nat → Int) (n k : Nat) : (mkP f n k).length = n := by simp [mkP]
theorem mkP_zero (f : Nat → Int) (n : Nat) : (mkP f n 0).map (Value.int .i64) = List.replicate (n * 1) (.int .i64 0) := by
  unfold mkP
  apply List.ext_getElem
  · simp
  · intro i h1 h2
    simp
theorem mkP_all (f : Nat → Int) (n : Nat) : mkP f n n = (List.range n).map f := by
  unfold mkP
  apply List.map_congr_left
  intro i hi
  rw [if_pos (List.mem_range.1 hi)]
theorem mkP_set (f : Nat → Int) (n k : Nat) (h : k < n) (x : Int) (hx : x = f k) : ((mkP f n k).map (Value.int .i64)).set k (.int .i64 x) = (mkP f n (k + 1)).map (Value.int .i64) := by
  subst hx
  unfold mkP
  apply List.ext_getElem
  · simp
  · intro i h1 h2
    rw [List.getElem_set]
    simp only [List.getElem_map, List.getElem_range]
    by_cases e : k = i
    · subst e; simp
    · rw [if_neg e]
      by_cases h3 : i < k
      · rw [if_pos h3, if_pos (by omega)]
      · rw [if_neg h3, if_neg (by omega)]
theorem range_snoc (f : Nat → Int) (k : Nat) : ((List.range (k + 1)).map f).map (Value.int .i64) = ((List.range k).map f).map (Value.int .i64) ++ [.int .i64 (f k)] := by
  rw [List.range_succ, List.map_append, List.map_append]; rfl
def compF (p q : List Int) (i : Nat) : Int := p[(q[i]?.getD 0).toNat]?.getD 0
def compL (p q : List Int) : List Int := (List.range q.length).map (compF p q)
theorem compL_length (p q : List Int) : (compL p q).length = q.length := by simp [compL]
def okC (p q : List Int) : Bool := decide (p.length = q.length) && (validB p && validB q)
def InW (p : List Int) : Prop := ∀ z ∈ p, -9223372036854775808 ≤ z ∧ z ≤ 9223372036854775807
/-- a list, or nothing -/
def ListOr (ok : Bool) (l : List Int) (w : World) (e : Ending) (w' : World) : Prop :=
  if ok then ∃ v, e = .returned (.tuple #[v, .bool true]) ∧ w'.ownsRow w.heap.size 3 1 v l.length (l.map (Value.int .i64)) ∧ Below w.heap.size w w'
  else e = .returned (.tuple #[.slice none 0 0, .bool false]) ∧ Below w.heap.size w w'
theorem valid_at {p : List Int} (h : validB p = true) {k : Nat} (hk : k < p.length) : ∃ x : Nat, p[k]?.getD 0 = (x : Int) ∧ x < p.length := by
  have := ((valid_iff p).1 h).1 k hk
  rw [List.getElem?_eq_getElem hk, Option.getD_some]
  exact ⟨p[k].toNat, by omega, by omega⟩
end Go.Proofs.Ytgkiloidjeahbaa
