/- Slices of slices of integers: what it means that a slice value holds such a list. -/
import Derived.Test.YtcnabebcckbfkaaDoorMem
import Derived.Deep.Matrix
namespace Go.Proofs.YtcnabebcckbfkaaDoor
open Go.RowKit Go.ChangeShapes Go.WideShapes

/-- integers of one kind, or an empty slice wherever it points -/
def IntsW (q : IntKind) (n₀ : Nat) (w : World) (v : Value) (zs : List Int) : Prop := (zs = [] ∧ ∃ a c, v = .slice (some a) 0 c) ∨ IntsAt q n₀ w v zs
theorem IntsW.below {q : IntKind} {n₀ : Nat} {A B : World} {v : Value} {zs : List Int} (h : Below n₀ A B) : IntsW q n₀ A v zs → IntsW q n₀ B v zs
  | .inl k => .inl k
  | .inr k => .inr (k.below h)
theorem IntsW.grow {q : IntKind} {n₀ n₁ : Nat} {w : World} {v : Value} {zs : List Int} (h : n₀ ≤ n₁) : IntsW q n₀ w v zs → IntsW q n₁ w v zs
  | .inl k => .inl k
  | .inr k => .inr (k.grow h)
theorem IntsW.later {q : IntKind} {A B : World} {v : Value} {zs : List Int} (k : IntsW q A.heap.size A v zs) (h : Below A.heap.size A B) : IntsW q B.heap.size B v zs := (k.below h).grow h.size
theorem IntsW.value {q : IntKind} {n₀ : Nat} {w : World} {v : Value} {zs : List Int} (h : IntsW q n₀ w v zs) : ∃ a c, v = .slice a zs.length c := by
  rcases h with ⟨rfl, a, c, rfl⟩ | h
  · exact ⟨_, _, rfl⟩
  · rcases h.form with ⟨rfl, rfl⟩ | ⟨b, off, cap, rfl, _⟩ <;> exact ⟨_, _, rfl⟩
/-- empty, or a row of cells -/
theorem IntsW.forms {q : IntKind} {n₀ : Nat} {w : World} {v : Value} {zs : List Int} (h : IntsW q n₀ w v zs) :
    (∃ a c, v = .slice a 0 c ∧ zs = []) ∨ ∃ b off cap, v = .slice (some ⟨b, off, none⟩) zs.length cap ∧ zs.length ≤ cap ∧ b < n₀ ∧ ∀ j, j < zs.length → w.cell? ⟨b, off + j, none⟩ = some (.int q (zs[j]?.getD 0)) := by
  rcases h with ⟨rfl, a, c, rfl⟩ | h
  · exact .inl ⟨_, _, rfl, rfl⟩
  · rcases h.form with ⟨rfl, rfl⟩ | ⟨b, off, cap, rfl, hk⟩
    · exact .inl ⟨_, _, rfl, rfl⟩
    · exact .inr ⟨b, off, cap, rfl, hk⟩

/-- a slice of slices of integers -/
def RowsAt (q : IntKind) (n₀ : Nat) (w : World) (v : Value) (zss : List (List Int)) : Prop :=
  ∃ vs : List Value, vs.length = zss.length ∧ SliceAt n₀ w 1 v zss.length vs ∧ ∀ (j : Nat) (u : Value) (zs : List Int), vs[j]? = some u → zss[j]? = some zs → IntsW q n₀ w u zs
theorem RowsAt.below {q : IntKind} {n₀ : Nat} {A B : World} {v : Value} {zss : List (List Int)} (h : Below n₀ A B) : RowsAt q n₀ A v zss → RowsAt q n₀ B v zss
  | ⟨vs, hl, hs, hr⟩ => ⟨vs, hl, hs.below h, fun j u zs hu hz => (hr j u zs hu hz).below h⟩
theorem RowsAt.grow {q : IntKind} {n₀ n₁ : Nat} {w : World} {v : Value} {zss : List (List Int)} (h : n₀ ≤ n₁) : RowsAt q n₀ w v zss → RowsAt q n₁ w v zss
  | ⟨vs, hl, hs, hr⟩ => ⟨vs, hl, hs.grow h, fun j u zs hu hz => (hr j u zs hu hz).grow h⟩
theorem RowsAt.later {q : IntKind} {A B : World} {v : Value} {zss : List (List Int)} (k : RowsAt q A.heap.size A v zss) (h : Below A.heap.size A B) : RowsAt q B.heap.size B v zss := (k.below h).grow h.size
theorem RowsAt.nil {q : IntKind} {n₀ : Nat} {w : World} : RowsAt q n₀ w (.slice none 0 0) [] := ⟨[], rfl, ⟨by simp, .inl ⟨rfl, rfl⟩⟩, fun j u zs hu => by cases hu⟩
theorem RowsAt.form {q : IntKind} {n₀ : Nat} {w : World} {v : Value} {zss : List (List Int)} (h : RowsAt q n₀ w v zss) :
    (v = .slice none 0 0 ∧ zss = []) ∨ ∃ b off cap, v = .slice (some ⟨b, off, none⟩) zss.length cap ∧ zss.length ≤ cap ∧ b < n₀ ∧
      ∀ j, j < zss.length → ∃ a c, w.cell? ⟨b, off + j, none⟩ = some (.slice a (zss[j]?.getD []).length c) ∧ IntsW q n₀ w (.slice a (zss[j]?.getD []).length c) (zss[j]?.getD []) := by
  obtain ⟨vs, hl, ⟨hs, ⟨e, h⟩ | ⟨b, off, cap, e, hn, hb, hc⟩⟩, hr⟩ := h
  · exact .inl ⟨e, List.length_eq_zero_iff.1 h⟩
  · refine .inr ⟨b, off, cap, e, hn, hb, fun j hj => ?_⟩
    have hv : vs[j]? = some vs[j] := List.getElem?_eq_getElem (by omega)
    have hz : zss[j]? = some zss[j] := List.getElem?_eq_getElem hj
    have hI := hr j _ _ hv hz
    have hC := hc j _ hv
    rw [hz, Option.getD_some]
    generalize vs[j] = u at *
    obtain ⟨a, c, rfl⟩ := hI.value
    exact ⟨a, c, hC, hI⟩
theorem RowsAt.value {q : IntKind} {n₀ : Nat} {w : World} {v : Value} {zss : List (List Int)} (h : RowsAt q n₀ w v zss) : ∃ a c, v = .slice a zss.length c := by
  rcases h.form with ⟨rfl, rfl⟩ | ⟨b, off, cap, rfl, _⟩ <;> exact ⟨_, _, rfl⟩
theorem arg_int_rows {H : Type} {enc : TypeId × Value → H} {P : Program} {w : World} {t e q : TypeId} {k : IntKind} {v : Value} {d : DataW H} {p : List MemPlace} {base : Nat} (ht : P.underlying t = some (.slice e)) (he : P.underlying e = some (.slice q)) (hq : P.underlying q = some (.int k))
    (ce : P.cellsOf e = 1) (cq : P.cellsOf q = 1) (hok : Value.okWide P w .any base t v) (h : DataW.Trod enc P w 0 (fun _ => true) true t v d p) :
    ∃ zss : List (List Int), RowsAt k w.heap.size w v zss ∧ (∀ zs ∈ zss, ∀ z ∈ zs, (Lit.int k z).wf = true) ∧ (∀ zs ∈ zss, zs.length ≤ maxLen) ∧ zss.length ≤ maxLen := by
  obtain ⟨a0, len, cap, rfl⟩ := okWide_slice ht hok
  obtain ⟨fuel, hf⟩ := h
  rcases Go.Deep.open_int_rows ht he hq ce cq hf with ⟨hcs, hx⟩ | ⟨a, len', cap', A, L, C, Z, hcs, _, hl, hm, hx, hr⟩
  · have e1 : Value.slice a0 len cap = .slice none 0 0 := by simpa [Value.cells] using hcs
    rw [e1]
    exact ⟨[], RowsAt.nil, by simp, by simp, by simp⟩
  · have e1 : Value.slice a0 len cap = .slice (some a) len' cap' := by simpa [Value.cells] using hcs
    rw [e1]
    have hh : w.has P .any base a e cap' := by
      rw [e1] at hok
      simp only [Value.okWide, ht, Cell.okWide, Cell.ok] at hok
      exact hok.2.2
    obtain ⟨_, hspot, row, cells, hsh, _⟩ := hh
    obtain ⟨b, off, spot⟩ := a
    cases hspot
    have hb : b < w.heap.size := by
      apply Nat.lt_of_not_le
      intro hge
      simp [World.shape?, Array.getElem?_eq_none hge] at hsh
    have hrow : ∀ r, r < len' → IntsW k w.heap.size w (.slice (A r) (L r) (C r)) ((Z r).take (L r)) := by
      intro r hr'
      obtain ⟨hc, r1, r2, r3, r4, r5, r6⟩ := hr r (by omega)
      have hlz : ((Z r).take (L r)).length = L r := by rw [List.length_take]; omega
      rcases Nat.eq_zero_or_pos (L r) with h0 | hpos
      · cases hA : A r with
        | none =>
          have h5 := r5 hA
          rw [h5, h0, List.take_zero]
          exact .inr IntsAt.nil
        | some a' =>
          rw [h0, List.take_zero]
          exact .inl ⟨rfl, _, _, rfl⟩
      · cases hA : A r with
        | none => have h5 := r5 hA; omega
        | some a' =>
          obtain ⟨_, hcs⟩ := r6 a' hA
          obtain ⟨b', off', spot⟩ := a'
          have h0 := hcs 0 (by omega)
          have hb' := World.block_lt_of_cell? _ _ h0
          cases spot with
          | some s =>
            simp only [World.cell?, Addr.add, if_true, Option.isSome_some] at h0
            split at h0 <;> cases h0
          | none =>
            have := IntsAt.mk (q := k) (n₀ := w.heap.size) (b := b') (off := off') (cap := C r) (w := w) (zs := (Z r).take (L r)) (by omega) (by simpa [Addr.add] using hb') (fun j hj => by
              rw [hlz] at hj
              have := hcs j (by omega)
              rw [Go.WideShapes.add_plain] at this
              rw [this, List.getElem?_take, if_pos hj]
              simp)
            rw [hlz] at this
            exact .inr this
    refine ⟨(List.range len').map fun r => (Z r).take (L r), ⟨(List.range len').map fun r => .slice (A r) (L r) (C r), by simp, ⟨by simp, .inr ⟨b, off, cap', by simp, by simpa using hl, hb, fun j u hj => ?_⟩⟩, fun j u zs hu hz => ?_⟩, ?_, ?_, ?_⟩
    · simp only [List.getElem?_map, Option.map_eq_some_iff] at hj
      obtain ⟨r, hr1, rfl⟩ := hj
      obtain ⟨h1, h2⟩ := List.getElem?_eq_some_iff.1 hr1
      simp at h1 h2
      subst h2
      have := (hr j (by omega)).1
      rw [Go.WideShapes.add_plain] at this
      exact this
    · simp only [List.getElem?_map, Option.map_eq_some_iff] at hu hz
      obtain ⟨r, hr1, rfl⟩ := hu
      obtain ⟨r', hr2, rfl⟩ := hz
      rw [hr1] at hr2
      cases hr2
      obtain ⟨h1, h2⟩ := List.getElem?_eq_some_iff.1 hr1
      simp at h1 h2
      subst h2
      exact hrow _ h1
    · intro zs hzs z hz
      simp only [List.mem_map, List.mem_range] at hzs
      obtain ⟨r, hr', rfl⟩ := hzs
      exact (hr r (by omega)).2.2.2.2.1 z (List.mem_of_mem_take hz)
    · intro zs hzs
      simp only [List.mem_map, List.mem_range] at hzs
      obtain ⟨r, hr', rfl⟩ := hzs
      have := hr r (by omega)
      rw [List.length_take]
      omega
    · simp; omega
end Go.Proofs.YtcnabebcckbfkaaDoor
