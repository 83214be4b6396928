/- Structs and arrays among the arguments: what their cells hold. -/
import Derived.Test.YtcnabebcckbfkaaDoorRows2
import Derived.OpenShut
import Derived.Lib.SmallJoins
namespace Go.Proofs.YtcnabebcckbfkaaDoor
open Go.RowKit Go.ChangeShapes Go.WideShapes
/-- some cells read as a value of a type -/
def Reads {H : Type} (enc : TypeId × Value → H) (P : Program) (w : World) (t : TypeId) (cs : List Value) : Prop := ∃ n y, DataW.trod enc P w 0 (fun _ => true) true n t cs = some y
section
variable {H : Type} {enc : TypeId × Value → H} {P : Program} {w : World}
theorem reads_arg {t : TypeId} {cs : Array Value} {d : DataW H} {p : List MemPlace} (h : DataW.Trod enc P w 0 (fun _ => true) true t (.agg cs) d p) : Reads enc P w t cs.toList := by
  obtain ⟨n, h⟩ := h
  exact ⟨n, _, by simpa [Value.cells] using h⟩
theorem reads_field {t : TypeId} {fs : Array Field} {cs cs' : List Value} {k o T : Nat} (ht : P.underlying t = some (.struct fs)) (h : Reads enc P w t cs) (i : Nat) (f : Field) (hf : fs[i]? = some f) (hT : f.type = T) (ho : f.offset = o) (hk : P.cellsOf T = k) (hc : (cs.drop o).take k = cs') : Reads enc P w T cs' := by
  subst hT ho hk hc
  obtain ⟨n, y, h⟩ := h
  obtain ⟨xs, m, _, _, _, hl, hx⟩ := DataW.trod_struct ht h
  have := hx i f hf
  have hi : i < xs.length := by
    rw [hl]
    exact (Array.getElem?_eq_some_iff.1 hf).1
  rw [List.getElem?_eq_getElem hi] at this
  exact ⟨m, _, this⟩
theorem reads_elem {t e : TypeId} {N k : Nat} {cs cs' : List Value} (ht : P.underlying t = some (.array N e)) (h : Reads enc P w t cs) (i : Nat) (hi : i < N) (hk : P.cellsOf e = k) (hc : (cs.drop (i * k)).take k = cs') : Reads enc P w e cs' := by
  subst hk hc
  obtain ⟨n, y, h⟩ := h
  obtain ⟨xs, m, _, _, _, hl, hx⟩ := DataW.trod_array ht h
  have := hx i hi
  rw [List.getElem?_eq_getElem (by omega)] at this
  exact ⟨m, _, this⟩
theorem reads_int {t : TypeId} {k : IntKind} {c : Value} (ht : P.underlying t = some (.int k)) (h : Reads enc P w t [c]) : ∃ a, c = .int k a ∧ (Lit.int k a).wf = true := by
  obtain ⟨n, y, h⟩ := h
  obtain ⟨a, h1, _, hw⟩ := DataW.trod_int ht h
  simp at h1
  exact ⟨a, h1, hw⟩
theorem reads_bool {t : TypeId} {c : Value} (ht : P.underlying t = some .bool) (h : Reads enc P w t [c]) : ∃ b, c = .bool b := by
  obtain ⟨n, y, h⟩ := h
  cases n with
  | zero => simp [DataW.trod] at h
  | succ n =>
    simp only [DataW.trod, ht] at h
    cases c <;> simp_all
theorem reads_ints {t e : TypeId} {k : IntKind} {c : Value} (ht : P.underlying t = some (.slice e)) (he : P.underlying e = some (.int k)) (hc : P.cellsOf e = 1) (h : Reads enc P w t [c]) :
    ∃ zs : List Int, IntsW k w.heap.size w c zs ∧ (∀ z ∈ zs, (Lit.int k z).wf = true) ∧ zs.length ≤ maxLen := by
  obtain ⟨n, y, h⟩ := h
  rcases open_ints ht he hc h with ⟨hcs, _⟩ | ⟨a, len', cap', zs, hcs, _, hl, hm, hz, hx, hcell, hwz⟩
  · have e1 : c = .slice none 0 0 := by simpa using hcs
    subst e1
    exact ⟨[], .inr IntsAt.nil, by simp, by simp⟩
  · have e1 : c = .slice (some a) len' cap' := by simpa using hcs
    subst e1
    simp only [if_true] at hz
    have hlz : (zs.take len').length = len' := by rw [List.length_take]; omega
    refine ⟨zs.take len', ?_, fun z hz' => hwz z (List.mem_of_mem_take hz'), by omega⟩
    rcases Nat.eq_zero_or_pos len' with h0 | hpos
    · rw [h0, List.take_zero]
      exact .inl ⟨rfl, _, _, rfl⟩
    · obtain ⟨b, off, spot⟩ := a
      have h0 := hcell 0 (by omega)
      have hb := World.block_lt_of_cell? _ _ h0
      cases spot with
      | some s =>
        simp only [World.cell?, Addr.add, if_true, Option.isSome_some] at h0
        split at h0 <;> cases h0
      | none =>
        have := IntsAt.mk (q := k) (n₀ := w.heap.size) (b := b) (off := off) (cap := cap') (w := w) (zs := zs.take len') (by omega) (by simpa [Addr.add] using hb) (fun j hj => by
          rw [hlz] at hj
          have := hcell j (by omega)
          rw [Go.WideShapes.add_plain] at this
          rw [this, List.getElem?_take, if_pos hj]
          simp)
        rw [hlz] at this
        exact .inr this
theorem agg_value {t : TypeId} {fs : Array Field} {v : Value} {base n : Nat} (ht : P.underlying t = some (.struct fs)) (hn : P.cellsOf t = n) (h : Value.okWide P w .any base t v) : ∃ cs, v = .agg cs ∧ cs.size = n := by
  subst hn
  exact okWide_struct ht h
theorem arr_value {t e : TypeId} {N : Nat} {v : Value} {base n : Nat} (ht : P.underlying t = some (.array N e)) (hn : P.cellsOf t = n) (h : Value.okWide P w .any base t v) : ∃ cs, v = .agg cs ∧ cs.size = n := by
  subst hn
  simp only [Value.okWide, ht] at h
  obtain ⟨cs, h1, h2, _⟩ := h
  exact ⟨cs, h1, h2⟩
theorem array1 {α : Type} {cs : Array α} (h : cs.size = 1) : ∃ c0, cs = #[c0] := by
  obtain ⟨l⟩ := cs
  match l, h with
  | [c0], _ => exact ⟨c0, rfl⟩
theorem array5 {α : Type} {cs : Array α} (h : cs.size = 5) : ∃ c0 c1 c2 c3 c4, cs = #[c0, c1, c2, c3, c4] := by
  obtain ⟨l⟩ := cs
  match l, h with
  | [c0, c1, c2, c3, c4], _ => exact ⟨c0, c1, c2, c3, c4, rfl⟩
theorem array6 {α : Type} {cs : Array α} (h : cs.size = 6) : ∃ c0 c1 c2 c3 c4 c5, cs = #[c0, c1, c2, c3, c4, c5] := by
  obtain ⟨l⟩ := cs
  match l, h with
  | [c0, c1, c2, c3, c4, c5], _ => exact ⟨c0, c1, c2, c3, c4, c5, rfl⟩
end
end Go.Proofs.YtcnabebcckbfkaaDoor
