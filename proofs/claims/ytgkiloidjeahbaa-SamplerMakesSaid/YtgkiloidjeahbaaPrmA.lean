/- Layer 6: what is marked, Valid, the reference's search and Valid, the identity. -/
import Derived.Test.YtgkiloidjeahbaaProg
import Derived.Test.YtgkiloidjeahbaaShelf
import Derived.ProofKit
import Derived.Test.YtgkiloidjeahbaaPrmM
import Derived.Test.YtgkiloidjeahbaaMapI
import Derived.Test.YtgkiloidjeahbaaLaw
import Derived.Test.YtgkiloidjeahbaaArg
namespace Go.Proofs.Ytgkiloidjeahbaa
open Go.RowKit Go.Maps
set_option linter.unusedVariables false
def SeenM (w : World) (b : Nat) (p : List Int) (k : Nat) : Prop := MapIs Try.prog w 3 4 b k (litsB fun z => (p.take k).contains z)
theorem SeenM.zero {w : World} {b : Nat} {p : List Int} (h : MapIs Try.prog w 3 4 b 0 (fun _ => none)) : SeenM w b p 0 := by
  have e : (litsB fun z => (p.take 0).contains z) = (fun _ => none) := by
    funext z
    unfold litsB
    simp
  unfold SeenM
  rw [e]; exact h
theorem contains_snoc (l : List Int) (y x : Int) : (l ++ [y]).contains x = (l.contains x || x == y) := by
  rw [Bool.eq_iff_iff]
  simp
theorem litsB_put (p : List Int) (k : Nat) (h : k < p.length) (x : Int) : litsB (fun z => (p.take (k + 1)).contains z) x = if x = p[k]?.getD 0 then some (.bool true) else litsB (fun z => (p.take k).contains z) x := by
  unfold litsB
  rw [List.take_succ_eq_append_getElem h, List.getElem?_eq_getElem h, Option.getD_some]
  show (if (p.take k ++ [p[k]]).contains x = true then _ else _) = if x = p[k] then _ else if (p.take k).contains x = true then _ else _
  rw [contains_snoc]
  by_cases e : x = p[k]
  · rw [if_pos e, show (x == p[k]) = true by simpa using e, Bool.or_true, if_pos rfl]
  · rw [if_neg e, show (x == p[k]) = false by simpa using e, Bool.or_false]
def MarkDone (b : Nat) (p : List Int) (w : World) (e : Ending) (w' : World) : Prop :=
  e = .returned (.bool (validB p)) ∧ (∃ k, k ≤ p.length ∧ SeenM w' b p k) ∧ w.grownBy w' (some b)
end Go.Proofs.Ytgkiloidjeahbaa
