/- How long a list of integers among the arguments can be: by the form's reach. -/
import Derived.Test.YtgbgmmakiimbbaaMem
import Derived.SizedLaws
namespace Go.Proofs.Ytgbgmmakiimbbaa
open Go.RowKit Go.ChangeShapes Go.WideShapes
theorem arg_weight {H : Type} {enc : TypeId × Value → H} {P : Program} {w : World} {t e : TypeId} {k : IntKind} {v : Value} {d : DataW H} {p : List MemPlace} {base n₀ : Nat} {zs : List Int} (ht : P.underlying t = some (.slice e)) (he : P.underlying e = some (.int k)) (hc : P.cellsOf e = 1)
    (hok : Value.okWide P w .any base t v) (h : DataW.Trod enc P w 0 (fun _ => true) true t v d p) (hL : IntsAt k n₀ w v zs) :
    zs = [] ∨ ∃ elems spare, d = .slice elems spare ∧ zs.length ≤ elems.length + spare.length := by
  obtain ⟨a0, len, cap, rfl⟩ := okWide_slice ht hok
  obtain ⟨fuel, hf⟩ := h
  rcases open_ints ht he hc hf with ⟨hcs, hx⟩ | ⟨a, len', cap', zs', hcs, _, hl, hm, hz, hx, _, _⟩
  · have e1 : Value.slice a0 len cap = .slice none 0 0 := by simpa [Value.cells] using hcs
    rw [e1] at hL
    exact .inl (List.length_eq_zero_iff.1 hL.len.symm)
  · have e1 : Value.slice a0 len cap = .slice (some a) len' cap' := by simpa [Value.cells] using hcs
    rw [e1] at hL
    simp only [if_true] at hz
    have e2 := hL.len
    cases hx
    refine .inr ⟨_, _, rfl, ?_⟩
    simp [lits]
    omega
theorem arg_reach {H : Type} {P : Program} {ts : List TypeId} {ds : List (DataW H)} (h : (DataW.weightsEach P ts ds).all (· ≤ reachBytes) = true) {j : Nat} {t e : TypeId} {d : DataW H} {bytes : Nat} {zs : List Int} (hw : zs = [] ∨ ∃ elems spare, d = .slice elems spare ∧ zs.length ≤ elems.length + spare.length)
    (ht : ts[j]? = some t) (hd : ds[j]? = some d) (hu : P.underlying t = some (.slice e)) (hb : P.bytesOf e = bytes) : zs.length * bytes ≤ 140737488351232 := by
  rcases hw with rfl | ⟨el, sp, rfl, hle⟩
  · simp
  · have := sized_slice h ht hd hu
    rw [hb, show reachBytes = 140737488351232 from rfl] at this
    exact Nat.le_trans (Nat.mul_le_mul_right _ hle) this
end Go.Proofs.Ytgbgmmakiimbbaa
