/- Layer 6: lists of lists of the call's own, clear, Cycles. -/
import Derived.Test.YtgkiloidjeahbaaPrmE
import Derived.Test.YtgkiloidjeahbaaPrmT
namespace Go.Proofs.Ytgkiloidjeahbaa
open Go.RowKit Go.Maps
set_option linter.unusedVariables false
theorem MapIs.clear {P : Program} {w : World} {t k e : TypeId} {b n : Nat} {f : Int → Option Lit} (h : MapIs P w k e b n f) (ht : P.underlying t = some (.map k e)) (ty : TypeId) :
    ∃ w', (Builtin.clear_ #[t] ty #[.map (some b)]).run P w = .ok (.tuple #[]) w' ∧ MapIs P w' k e b 0 (fun _ => none) ∧ w.grownBy w' (some b) := by
  obtain ⟨D, ⟨es, clock, hb, F, hs, hD⟩, h2, h3⟩ := h
  have hset := MapKept.heap_set (o' := .map #[] clock) hb
  refine ⟨{ w with heap := w.heap.setIfInBounds b (.map #[] clock) }, ?_, ⟨.map [], ⟨#[], clock, hset.1, ⟨by simp, MapKept.stamped_empty clock, by simp⟩, Nat.le_refl _, rfl⟩, isMap_empty, fun z _ => ⟨rfl, fun y hy => by cases hy⟩⟩, ⟨rfl, rfl, rfl, by simp, fun i _ hi => hset.2 i (fun e => hi (by rw [e]))⟩⟩
  simp [Builtin.clear_, run_underlying ht, MapKept.run_getObj_map hb, MapKept.run_setObj_map _ hb, Result.andThen]
def sliceLen : Value → Nat
  | .slice _ n _ => n
  | _ => 0
theorem type_apart {w : World} {b1 b2 n1 n2 s1 s2 : Nat} {e1 e2 : TypeId} {v1 v2 : Value} {xs1 xs2 : List Value} (h1 : w.ownsRow b1 e1 s1 v1 n1 xs1) (h2 : w.ownsRow b2 e2 s2 v2 n2 xs2) (he : e1 ≠ e2) : v1.ownBlock = none ∨ v1.ownBlock ≠ v2.ownBlock := by
  rcases h1.2 with ⟨rfl, _⟩ | ⟨g1, c1, cur1, rfl, _, hg1, _⟩
  · exact .inl rfl
  · rcases h2.2 with ⟨rfl, _⟩ | ⟨g2, c2, cur2, rfl, _, hg2, _⟩
    · exact .inr (by simp [Value.ownBlock])
    · refine .inr fun e => ?_
      simp [Value.ownBlock] at e
      subst e
      rw [hg1] at hg2
      simp at hg2
      exact he hg2.2
def ListsAt (N : Nat) (W : World) (v : Value) (ls : List (List Int)) : Prop :=
  ∃ us : List Value, us.length = ls.length ∧ W.ownsRow N 38 1 v ls.length us ∧ ∀ t, t < ls.length → W.ownsRow N 3 1 (us[t]?.getD undef) (ls[t]?.getD []).length ((ls[t]?.getD []).map (Value.int .i64))
theorem ListsAt.nil (N : Nat) (W : World) : ListsAt N W (.slice none 0 0) [] := ⟨[], rfl, World.ownsRow_nil _ _ _ _, fun t h => by cases h⟩
theorem ListsAt.kept {N : Nat} {W W' : World} {v : Value} {ls : List (List Int)} {row : Option Nat} (h : ListsAt N W v ls) (hg : W.grownBy W' row) (hr : ∀ k, row = some k → k < N) : ListsAt N W' v ls := by
  obtain ⟨us, h1, h2, h3⟩ := h
  exact ⟨us, h1, row_other h2 hg hr, fun t ht => row_other (h3 t ht) hg hr⟩
theorem ListsAt.later {N : Nat} {W W' : World} {v : Value} {ls : List (List Int)} (h : ListsAt N W v ls) (hb : Below W.heap.size W W') : ListsAt N W' v ls := h.kept (grown_below hb none) (fun k e => by cases e)
theorem ListsAt.mono {N N' : Nat} {W : World} {v : Value} {ls : List (List Int)} (h : ListsAt N W v ls) (hn : N' ≤ N) : ListsAt N' W v ls := by
  obtain ⟨us, h1, h2, h3⟩ := h
  exact ⟨us, h1, owns_mono hn h2, fun t ht => owns_mono hn (h3 t ht)⟩
theorem elemL : Elem Try.prog 31 38 (.slice none 0 0) 1 24 := ⟨Try.underlying31, info_parts (by kernel_rfl), rfl, by decide⟩
theorem ListsAt.snoc {N : Nat} {W W' : World} {v v' cv : Value} {us : List Value} {ls : List (List Int)} {l : List Int} (h1 : us.length = ls.length) (h2 : W.ownsRow N 38 1 v ls.length us)
    (h3 : ∀ t, t < ls.length → W.ownsRow N 3 1 (us[t]?.getD undef) (ls[t]?.getD []).length ((ls[t]?.getD []).map (Value.int .i64))) (hc : W.ownsRow N 3 1 cv l.length (l.map (Value.int .i64)))
    (ho : W'.ownsRow N 38 1 v' (ls.length + 1) (us ++ [cv])) (hg : W.grownBy W' v.ownBlock) : ListsAt N W' v' (ls ++ [l]) := by
  refine ⟨us ++ [cv], by simp [h1], by simpa using ho, fun t ht => ?_⟩
  rw [List.length_append, List.length_singleton] at ht
  by_cases e : t < ls.length
  · have := (h3 t e).kept hg (type_apart (h3 t e) h2 (by decide))
    rw [List.getElem?_append_left (by omega), List.getElem?_append_left e]
    exact this
  · have et : t = ls.length := by omega
    have := hc.kept hg (type_apart hc h2 (by decide))
    subst et
    rw [← h1, List.getElem?_append_right (Nat.le_refl _), Nat.sub_self, h1, List.getElem?_append_right (Nat.le_refl _), Nat.sub_self]
    exact this
noncomputable def CyclesOk (p : List Int) (w : World) (e : Ending) (w' : World) : Prop :=
  ∃ v, e = .returned (.tuple #[v, .bool (validB p)]) ∧ ListsAt w.heap.size w' v (if validB p then cycsTo p p.length else []) ∧ Below w.heap.size w w'
theorem litsB_false : litsB (fun _ => false) = fun _ => none := by
  funext z
  simp [litsB]
theorem litsB_mid (p : List Int) (i j : Nat) (x : Int) : litsB (midB p i (j + 1)) x = if x = (itP p i j : Int) then some (.bool true) else litsB (midB p i j) x := by
  unfold litsB
  rw [mid_succ]
  by_cases e : x = (itP p i j : Int)
  · rw [if_pos e, show decide (x = (itP p i j : Int)) = true by simpa using e, Bool.true_or, if_pos rfl]
  · rw [if_neg e, show decide (x = (itP p i j : Int)) = false by simpa using e, Bool.false_or]
end Go.Proofs.Ytgkiloidjeahbaa
