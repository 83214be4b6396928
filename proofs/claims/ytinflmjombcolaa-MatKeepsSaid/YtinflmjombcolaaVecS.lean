/- The sum of vectors. -/
import Derived.Test.YtinflmjombcolaaVecG
namespace Go.Proofs.Ytinflmjombcolaa
open Go.RowKit
set_option linter.unusedVariables false
def alike (z : List Int) (r : List (List Int)) : Bool := r.all fun y => decide (y.length = z.length)
def sumOk : List (List Int) → Bool
  | [] => true
  | z :: r => alike z r
def sumL : List (List Int) → List Int
  | [] => []
  | z :: r => if alike z r then r.foldl addL z else []
theorem foldl_addL_length (z : List Int) (r : List (List Int)) (h : alike z r = true) : (r.foldl addL z).length = z.length := by
  induction r generalizing z with
  | nil => rfl
  | cons y r ih =>
    simp only [alike, List.all_cons, Bool.and_eq_true, decide_eq_true_eq, List.all_eq_true] at h
    have hl := addL_length z y h.1.symm
    rw [List.foldl_cons, ih, hl]
    simp only [alike, List.all_eq_true, decide_eq_true_eq]
    intro x hx
    rw [hl]
    exact h.2 x hx
theorem alike_take {z : List Int} {r : List (List Int)} (h : alike z r = true) (k : Nat) : alike z (r.take k) = true := by
  simp only [alike, List.all_eq_true, decide_eq_true_eq] at *
  exact fun x hx => h x (List.mem_of_mem_take hx)
theorem alike_step {z : List Int} {r : List (List Int)} {k : Nat} (hk : k < r.length) (h : alike z (r.take k) = true) (hy : (r[k]?.getD []).length = z.length) : alike z (r.take (k + 1)) = true := by
  simp only [alike, List.all_eq_true, decide_eq_true_eq] at *
  intro x hx
  rw [List.take_add_one, List.getElem?_eq_getElem hk, List.mem_append] at hx
  rcases hx with hx | hx
  · exact h x hx
  · rw [List.getElem?_eq_getElem hk] at hy
    simp only [Option.toList_some, List.mem_singleton] at hx
    rw [hx]; exact hy
theorem alike_not {z : List Int} {r : List (List Int)} {k : Nat} (hk : k < r.length) (hy : (r[k]?.getD []).length ≠ z.length) : alike z r = false := by
  rw [alike, List.all_eq_false]
  rw [List.getElem?_eq_getElem hk] at hy
  exact ⟨r[k], List.getElem_mem hk, by simpa using hy⟩
theorem foldl_take (z : List Int) (r : List (List Int)) (k : Nat) (hk : k < r.length) : (r.take (k + 1)).foldl addL z = addL ((r.take k).foldl addL z) (r[k]?.getD []) := by
  rw [List.take_add_one, List.foldl_append, List.getElem?_eq_getElem hk]
  rfl
def SumIs (zss : List (List Int)) (w : World) (e : Ending) (w' : World) : Prop :=
  ∃ v, e = .returned (.tuple #[v, .bool (sumOk zss)]) ∧ w'.ownsRow w.heap.size 2 1 v (sumL zss).length ((sumL zss).map (Value.int .i64)) ∧ Below w.heap.size w w'
theorem SumIs.no {z : List Int} {r : List (List Int)} {w w' : World} (h : alike z r = false) (hb : Below w.heap.size w w') : SumIs (z :: r) w (.returned (.tuple #[.slice none 0 0, .bool false])) w' := by
  unfold SumIs sumOk sumL
  simp only [h]
  exact ⟨_, rfl, World.ownsRow_nil _ _ _ _, hb⟩
theorem SumIs.yes {z : List Int} {r : List (List Int)} {v : Value} {w w' : World} (h : alike z r = true) (ho : w'.ownsRow w.heap.size 2 1 v z.length ((r.foldl addL z).map (Value.int .i64))) (hb : Below w.heap.size w w') : SumIs (z :: r) w (.returned (.tuple #[v, .bool true])) w' := by
  unfold SumIs sumOk sumL
  simp only [h, if_true, foldl_addL_length z r h]
  exact ⟨_, rfl, ho, hb⟩
theorem cut1 (b off n c : Nat) (hn : 1 ≤ n) (hc : n ≤ c) : ∃ p q, cutv (some ⟨b, off, none⟩) 1 n c 1 = .slice p (n - 1) q ∧ (1 < n → p = some ⟨b, off + 1, none⟩) := by
  unfold cutv sliced
  by_cases h : c = 1
  · rw [if_pos h]
    exact ⟨_, _, rfl, fun h1 => by omega⟩
  · rw [if_neg h]
    exact ⟨_, _, rfl, fun _ => by simp [Addr.add]⟩
end Go.Proofs.Ytinflmjombcolaa
