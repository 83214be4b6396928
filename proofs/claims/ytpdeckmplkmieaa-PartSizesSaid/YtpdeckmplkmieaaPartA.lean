/- A slice of pairs of integers among the arguments. -/
import Derived.Test.YtpdeckmplkmieaaPartM
import Derived.Deep.SlicePairs
namespace Go.Proofs.Ytpdeckmplkmieaa
open Go.RowKit Go.ChangeShapes Go.WideShapes Go.Deep

theorem flat_pair (f g : Nat → Int) (n : Nat) : rcells ((List.range n).map fun i => (f i, g i)) = (List.range n).flatMap fun i => [Value.int .i64 (f i), Value.int .i64 (g i)] := by
  simp [rcells, rcell, List.flatMap_map]
theorem arg_ranges {H : Type} {enc : TypeId × Value → H} {P : Program} {w : World} {t e : TypeId} {f0 f1 : Field} {v : Value} {d : DataW H} {p : List MemPlace} {base : Nat} (ht : P.underlying t = some (.slice e)) (he : P.underlying e = some (.struct #[f0, f1]))
    (ce : P.cellsOf e = 2) (o0 : f0.offset = 0) (o1 : f1.offset = 1) (c0 : P.cellsOf f0.type = 1) (c1 : P.cellsOf f1.type = 1) (i0 : P.underlying f0.type = some (.int .i64)) (i1 : P.underlying f1.type = some (.int .i64))
    (hok : Value.okWide P w .any base t v) (h : DataW.Trod enc P w 0 (fun _ => true) true t v d p) :
    ∃ rs : List (Int × Int), RangesAt w.heap.size w v rs ∧ (∀ r ∈ rs, (Lit.int .i64 r.1).wf = true ∧ (Lit.int .i64 r.2).wf = true) ∧ rs.length ≤ maxLen := by
  obtain ⟨a0, len, cap, rfl⟩ := okWide_slice ht hok
  obtain ⟨fuel, hf⟩ := h
  rcases open_slice_pairs ht he ce o0 o1 c0 c1 hf with ⟨hcs, hx⟩ | ⟨a, len', cap', m, n, V0, V1, D0, D1, P0, P1, hcs, _, hl, hm, hmm, hx, hi⟩
  · have e1 : Value.slice a0 len cap = .slice none 0 0 := by simpa [Value.cells] using hcs
    rw [e1]
    exact ⟨[], ⟨by simp [rcells], .inl ⟨rfl, rfl⟩⟩, by simp, by simp⟩
  · have e1 : Value.slice a0 len cap = .slice (some a) len' cap' := by simpa [Value.cells] using hcs
    rw [e1]
    simp only [if_true] at hmm
    have hh : w.has P .any base a e cap' := by
      rw [e1] at hok
      simp only [Value.okWide, ht, Cell.okWide, Cell.ok] at hok
      exact hok.2.2
    obtain ⟨_, hspot, row, cells, hsh, _⟩ := hh
    obtain ⟨b, off, spot⟩ := a
    cases hspot
    have hb : b < w.heap.size := by
      apply Nat.lt_of_not_le
      intro hge
      simp [World.shape?, Array.getElem?_eq_none hge] at hsh
    have key : ∀ i, i < len' → ∃ x y : Int, V0 i = .int .i64 x ∧ V1 i = .int .i64 y ∧ (Lit.int .i64 x).wf = true ∧ (Lit.int .i64 y).wf = true := by
      intro i hil
      obtain ⟨_, _, t0, t1⟩ := hi i (by omega)
      obtain ⟨x, ex, _, wx⟩ := DataW.trod_int i0 t0
      obtain ⟨y, ey, _, wy⟩ := DataW.trod_int i1 t1
      exact ⟨x, y, by simpa using ex, by simpa using ey, wx, wy⟩
    let X : Nat → Int := fun i => match V0 i with | .int _ x => x | _ => 0
    let Y : Nat → Int := fun i => match V1 i with | .int _ x => x | _ => 0
    have hX : ∀ i, i < len' → V0 i = .int .i64 (X i) ∧ V1 i = .int .i64 (Y i) ∧ (Lit.int .i64 (X i)).wf = true ∧ (Lit.int .i64 (Y i)).wf = true := by
      intro i hil
      obtain ⟨x, y, h1, h2, h3, h4⟩ := key i hil
      have e1 : X i = x := by show (match V0 i with | .int _ x => x | _ => 0) = x; rw [h1]
      have e2 : Y i = y := by show (match V1 i with | .int _ x => x | _ => 0) = y; rw [h2]
      rw [e1, e2]; exact ⟨h1, h2, h3, h4⟩
    refine ⟨(List.range len').map fun i => (X i, Y i), ?_, ?_, by simp; omega⟩
    · have hlen : ((List.range len').map fun i => (X i, Y i)).length = len' := by simp
      refine ⟨by rw [rcells_length], .inr ⟨b, off, cap', by rw [hlen], by rw [hlen]; exact hl, hb, ?_⟩⟩
      intro j u hj
      have hjl : j < len' * 2 := by
        apply Nat.lt_of_not_le; intro hge
        rw [List.getElem?_eq_none (by rw [rcells_length, hlen]; exact hge)] at hj; cases hj
      have hji : j / 2 < len' := by omega
      obtain ⟨q0, q1⟩ := rcells_at ((List.range len').map fun i => (X i, Y i)) (j / 2) (by rw [hlen]; exact hji)
      obtain ⟨c0', c1', _, _⟩ := hi (j / 2) (by omega)
      obtain ⟨v0, v1, _, _⟩ := hX (j / 2) hji
      rw [Go.WideShapes.add_plain] at c0' c1'
      rcases Nat.mod_two_eq_zero_or_one j with hm2 | hm2
      · have ej : j = j / 2 * 2 := by omega
        rw [ej] at hj ⊢
        rw [q0] at hj
        rw [c0', v0]
        simpa using hj
      · have ej : j = j / 2 * 2 + 1 := by omega
        rw [ej] at hj ⊢
        rw [q1] at hj
        rw [c1', v1]
        simpa using hj
    · intro r hr
      simp only [List.mem_map, List.mem_range] at hr
      obtain ⟨i, hil, rfl⟩ := hr
      exact ⟨(hX i hil).2.2.1, (hX i hil).2.2.2⟩
end Go.Proofs.Ytpdeckmplkmieaa
