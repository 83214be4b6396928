/- Arguments that hold slices of structs: what their cells hold, and how long slices inside can be (by the form's reach). -/
import Derived.Test.YtgbgmmakiimbbaaAgg
import Derived.Test.YtgbgmmakiimbbaaGen
import Derived.Deep.SlicePairs
import Derived.SizedLaws
namespace Go.Proofs.Ytgbgmmakiimbbaa
open Go.RowKit Go.ChangeShapes Go.WideShapes
set_option linter.unusedVariables false
def ReadsZ {H : Type} (enc : TypeId × Value → H) (P : Program) (w : World) (t : TypeId) (cs : List Value) : Prop := ∃ n y, DataW.trod enc P w 0 (fun _ => true) true n t cs = some y ∧ ∀ x ∈ y.1.weights P t, x ≤ reachBytes
section
variable {H : Type} {enc : TypeId × Value → H} {P : Program} {w : World}
theorem ReadsZ.plain {t : TypeId} {cs : List Value} (h : ReadsZ enc P w t cs) : Reads enc P w t cs := by
  obtain ⟨n, y, h, _⟩ := h
  exact ⟨n, y, h⟩
theorem readsZ_arg {ts : List TypeId} {ds : List (DataW H)} (hsz : (DataW.weightsEach P ts ds).all (· ≤ reachBytes) = true) {t : TypeId} {v : Value} {d : DataW H} {p : List MemPlace} {cs : List Value} (h : DataW.Trod enc P w 0 (fun _ => true) true t v d p) (hv : v.cells.toList = cs) {j : Nat} (ht : ts[j]? = some t) (hd : ds[j]? = some d) : ReadsZ enc P w t cs := by
  subst hv
  obtain ⟨n, h⟩ := h
  exact ⟨n, _, h, fun x hx => by simpa using List.all_eq_true.1 hsz _ (DataW.weights_mem_each ht hd x hx)⟩
theorem weights_mem_all {e : TypeId} : ∀ {l : List (DataW H)} {d : DataW H}, d ∈ l → ∀ n ∈ d.weights P e, n ∈ DataW.weightsAll P e l
  | d0 :: l, d, hd, n, hn => by
    simp only [DataW.weightsAll, List.mem_append]
    rcases List.mem_cons.1 hd with rfl | hd
    · exact .inl hn
    · exact .inr (weights_mem_all hd n hn)
theorem readsZ_field {t : TypeId} {fs : Array Field} {cs cs' : List Value} {k o T : Nat} (ht : P.underlying t = some (.struct fs)) (h : ReadsZ enc P w t cs) (i : Nat) (f : Field) (hf : fs[i]? = some f) (hT : f.type = T) (ho : f.offset = o) (hk : P.cellsOf T = k) (hc : (cs.drop o).take k = cs') : ReadsZ enc P w T cs' := by
  subst hT ho hk hc
  obtain ⟨n, y, h, hw⟩ := h
  obtain ⟨xs, m, _, rfl, _, hl, hx⟩ := DataW.trod_struct ht h
  have h1 := hx i f hf
  have hi : i < xs.length := by
    rw [hl]
    exact (Array.getElem?_eq_some_iff.1 hf).1
  rw [List.getElem?_eq_getElem hi] at h1
  refine ⟨m, _, h1, fun x hx' => hw x ?_⟩
  simp only [DataW.weights, ht]
  refine DataW.weights_mem_each (j := i) (t := f.type) (d := xs[i].1) ?_ ?_ x hx'
  · rw [List.getElem?_map, Array.getElem?_toList, hf]; rfl
  · rw [List.getElem?_map, List.getElem?_eq_getElem hi]; rfl
theorem readsZ_ints {t e : TypeId} {k : IntKind} {c : Value} {bytes : Nat} (ht : P.underlying t = some (.slice e)) (he : P.underlying e = some (.int k)) (hc : P.cellsOf e = 1) (hb : P.bytesOf e = bytes) (h : ReadsZ enc P w t [c]) :
    ∃ zs : List Int, IntsW k w.heap.size w c zs ∧ (∀ z ∈ zs, (Lit.int k z).wf = true) ∧ zs.length * bytes ≤ 140737488351232 := by
  obtain ⟨zs, h1, h2, _⟩ := reads_ints ht he hc h.plain
  refine ⟨zs, h1, h2, ?_⟩
  obtain ⟨n, y, h, hw⟩ := h
  rcases open_ints ht he hc h with ⟨hcs, _⟩ | ⟨a, len', cap', zs', hcs, _, hl, hm, hz, rfl, _, _⟩
  · have e1 : c = .slice none 0 0 := by simpa using hcs
    subst e1
    rcases h1 with ⟨rfl, _⟩ | h1
    · simp
    · have := h1.len
      rw [← this]; simp
  · have e1 : c = .slice (some a) len' cap' := by simpa using hcs
    subst e1
    simp only [if_true] at hz
    have hlen : zs.length = len' := by
      obtain ⟨a2, c2, e2⟩ := h1.value
      injection e2 with _ e3 _
      exact e3.symm
    have := hw (((lits (H := H) k (zs'.take len')).length + (lits (H := H) k (zs'.drop len')).length) * P.bytesOf e) (by simp [DataW.weights, ht])
    rw [hb, show reachBytes = 140737488351232 from rfl] at this
    refine Nat.le_trans (Nat.mul_le_mul_right _ ?_) this
    simp [lits]
    omega
theorem readsZ_slice {t e : TypeId} {c : Value} {k : Nat} (ht : P.underlying t = some (.slice e)) (hk : P.cellsOf e = k) (h : ReadsZ enc P w t [c]) :
    c = .slice none 0 0 ∨ ∃ a len cap, c = .slice (some a) len cap ∧ len ≤ cap ∧ len ≤ maxLen ∧ ∀ i, i < len → ∃ cs', cs'.length = k ∧ (∀ j, j < k → w.cell? (a.add (i * k + j)) = cs'[j]?) ∧ ReadsZ enc P w e cs' := by
  subst hk
  obtain ⟨n, y, h, hw⟩ := h
  rcases Go.Deep.open_slice ht h with ⟨hcs, _⟩ | ⟨a, len, cap, m, n', D, Pl, hcs, _, hl, hm, hmm, rfl, hx⟩
  · exact .inl (by simpa using hcs)
  · have e1 : c = .slice (some a) len cap := by simpa using hcs
    subst e1
    simp only [if_true] at hmm
    subst hmm
    refine .inr ⟨a, len, m, rfl, hl, by omega, fun i hi => ?_⟩
    obtain ⟨cs', h1, h2⟩ := hx i (by omega)
    obtain ⟨_, hlen, hcell⟩ := World.cells?_some h1
    refine ⟨cs', hlen, fun j hj => ?_, ⟨n', _, h2, fun x hx' => hw x ?_⟩⟩
    · have := hcell j hj
      rw [Go.Deep.add_add] at this
      exact this
    · simp only [DataW.weights, ht]
      refine List.mem_cons_of_mem _ (List.mem_append_left _ (weights_mem_all ?_ x hx'))
      exact List.mem_map.2 ⟨i, List.mem_range.2 hi, rfl⟩
end
end Go.Proofs.Ytgbgmmakiimbbaa
