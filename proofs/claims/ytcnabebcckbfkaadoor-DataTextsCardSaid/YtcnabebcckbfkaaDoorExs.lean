/- Slices of examples: what it means that a slice value holds them. -/
import Derived.Test.YtcnabebcckbfkaaDoorAgg
import Derived.Test.YtcnabebcckbfkaaDoorGen
import Derived.Deep.SlicePairs
namespace Go.Proofs.YtcnabebcckbfkaaDoor
open Go.RowKit Go.ChangeShapes Go.WideShapes
set_option linter.unusedVariables false
/-- inputs and outputs -/
abbrev Ex := List Int × List Int
def exAt (es : List Ex) (j : Nat) : Ex := es[j]?.getD ([], [])
/-- the slice value v holds examples, in blocks below n₀ -/
def ExsAt (n₀ : Nat) (w : World) (v : Value) (es : List Ex) : Prop :=
  (es = [] ∧ ∃ a c, v = .slice a 0 c) ∨ ∃ b off cap, v = .slice (some ⟨b, off, none⟩) es.length cap ∧ es.length ≤ cap ∧ b < n₀ ∧
    ∀ j, j < es.length → ∃ vx vy, w.cell? ⟨b, off + j * 2, none⟩ = some vx ∧ w.cell? ⟨b, off + j * 2 + 1, none⟩ = some vy ∧ IntsW .i64 n₀ w vx (exAt es j).1 ∧ IntsW .i64 n₀ w vy (exAt es j).2
theorem ExsAt.below {n₀ : Nat} {A B : World} {v : Value} {es : List Ex} (h : Below n₀ A B) : ExsAt n₀ A v es → ExsAt n₀ B v es
  | .inl k => .inl k
  | .inr ⟨b, off, cap, e, hn, hb, hc⟩ => .inr ⟨b, off, cap, e, hn, hb, fun j hj => by
      obtain ⟨vx, vy, h1, h2, h3, h4⟩ := hc j hj
      exact ⟨vx, vy, (h.cell (p := ⟨b, off + j * 2, none⟩) hb).trans h1, (h.cell (p := ⟨b, off + j * 2 + 1, none⟩) hb).trans h2, h3.below h, h4.below h⟩⟩
theorem ExsAt.grow {n₀ n₁ : Nat} {w : World} {v : Value} {es : List Ex} (h : n₀ ≤ n₁) : ExsAt n₀ w v es → ExsAt n₁ w v es
  | .inl k => .inl k
  | .inr ⟨b, off, cap, e, hn, hb, hc⟩ => .inr ⟨b, off, cap, e, hn, Nat.lt_of_lt_of_le hb h, fun j hj => by
      obtain ⟨vx, vy, h1, h2, h3, h4⟩ := hc j hj
      exact ⟨vx, vy, h1, h2, h3.grow h, h4.grow h⟩⟩
theorem ExsAt.later {A B : World} {v : Value} {es : List Ex} (k : ExsAt A.heap.size A v es) (h : Below A.heap.size A B) : ExsAt B.heap.size B v es := (k.below h).grow h.size
theorem ExsAt.value {n₀ : Nat} {w : World} {v : Value} {es : List Ex} (h : ExsAt n₀ w v es) : ∃ a c, v = .slice a es.length c := by
  rcases h with ⟨rfl, a, c, rfl⟩ | ⟨b, off, cap, rfl, _⟩ <;> exact ⟨_, _, rfl⟩
/-- one example in memory -/
theorem ExsAt.at {n₀ : Nat} {w : World} {a : Option Addr} {n c : Nat} {es : List Ex} (h : ExsAt n₀ w (.slice a n c) es) {j : Nat} (hj : j < es.length) :
    ∃ b off, a = some ⟨b, off, none⟩ ∧ b < n₀ ∧ ∃ ax cx ay cy, w.cell? ⟨b, off + j * 2, none⟩ = some (.slice ax (exAt es j).1.length cx) ∧ w.cell? ⟨b, off + j * 2 + 1, none⟩ = some (.slice ay (exAt es j).2.length cy) ∧
      IntsW .i64 n₀ w (.slice ax (exAt es j).1.length cx) (exAt es j).1 ∧ IntsW .i64 n₀ w (.slice ay (exAt es j).2.length cy) (exAt es j).2 := by
  rcases h with ⟨rfl, _⟩ | ⟨b, off, cap, e, hn, hb, hc⟩
  · cases hj
  · cases e
    obtain ⟨vx, vy, h1, h2, h3, h4⟩ := hc j hj
    obtain ⟨ax, cx, rfl⟩ := h3.value
    obtain ⟨ay, cy, rfl⟩ := h4.value
    exact ⟨b, off, rfl, hb, ax, cx, ay, cy, h1, h2, h3, h4⟩
theorem reads_exs {H : Type} {enc : TypeId × Value → H} {P : Program} {w : World} {t e q : TypeId} {f0 f1 : Field} {c : Value} (ht : P.underlying t = some (.slice e)) (he : P.underlying e = some (.struct #[f0, f1]))
    (ce : P.cellsOf e = 2) (o0 : f0.offset = 0) (o1 : f1.offset = 1) (c0 : P.cellsOf f0.type = 1) (c1 : P.cellsOf f1.type = 1)
    (u0 : P.underlying f0.type = some (.slice q)) (u1 : P.underlying f1.type = some (.slice q)) (hq : P.underlying q = some (.int .i64)) (cq : P.cellsOf q = 1) (h : Reads enc P w t [c]) :
    ∃ es : List Ex, ExsAt w.heap.size w c es ∧ es.length ≤ maxLen ∧ ∀ e ∈ es, e.1.length ≤ maxLen ∧ e.2.length ≤ maxLen ∧ (∀ z ∈ e.1, (Lit.int .i64 z).wf = true) ∧ (∀ z ∈ e.2, (Lit.int .i64 z).wf = true) := by
  obtain ⟨n, y, h⟩ := h
  rcases Go.Deep.open_slice_pairs ht he ce o0 o1 c0 c1 h with ⟨hcs, _⟩ | ⟨a, len, cap, m, n', V0, V1, D0, D1, P0, P1, hcs, _, hl, hm, hmm, hx, hr⟩
  · have e1 : c = .slice none 0 0 := by simpa using hcs
    subst e1
    exact ⟨[], .inl ⟨rfl, _, _, rfl⟩, by simp, by simp⟩
  · have e1 : c = .slice (some a) len cap := by simpa using hcs
    subst e1
    simp only [if_true] at hmm
    subst hmm
    have h0 : ∀ i, i < len → ∃ p : Ex, IntsW .i64 w.heap.size w (V0 i) p.1 ∧ IntsW .i64 w.heap.size w (V1 i) p.2 ∧ p.1.length ≤ maxLen ∧ p.2.length ≤ maxLen ∧ (∀ z ∈ p.1, (Lit.int .i64 z).wf = true) ∧ (∀ z ∈ p.2, (Lit.int .i64 z).wf = true) := by
      intro i hi
      obtain ⟨_, _, h3, h4⟩ := hr i (by omega)
      obtain ⟨z0, i0, w0, l0⟩ := reads_ints u0 hq cq (⟨_, _, h3⟩ : Reads enc P w _ [V0 i])
      obtain ⟨z1, i1, w1, l1⟩ := reads_ints u1 hq cq (⟨_, _, h4⟩ : Reads enc P w _ [V1 i])
      exact ⟨(z0, z1), i0, i1, l0, l1, w0, w1⟩
    obtain ⟨q, hq'⟩ := Go.Deep.choose_lt h0
    rcases Nat.eq_zero_or_pos len with hz | hpos
    · subst hz
      exact ⟨[], .inl ⟨rfl, _, _, rfl⟩, by simp, by simp⟩
    · obtain ⟨b, off, spot⟩ := a
      have hc0 := (hr 0 (by omega)).1
      have hb := World.block_lt_of_cell? _ _ hc0
      cases spot with
      | some s =>
        simp only [World.cell?, Addr.add, if_true, Option.isSome_some] at hc0
        split at hc0 <;> cases hc0
      | none =>
        refine ⟨(List.range len).map q, .inr ⟨b, off, m, by simp, by simpa using hl, by simpa [Addr.add] using hb, fun j hj => ?_⟩, by simp; omega, ?_⟩
        · have hj' : j < len := by simpa using hj
          have e2 : exAt ((List.range len).map q) j = q j := by
            unfold exAt
            rw [List.getElem?_map, List.getElem?_range hj']
            rfl
          obtain ⟨g0, g1, _, _⟩ := hr j (by omega)
          have hqj := hq' j hj'
          rw [e2]
          refine ⟨V0 j, V1 j, ?_, ?_, hqj.1, hqj.2.1⟩
          · rw [Go.WideShapes.add_plain] at g0; exact g0
          · rw [Go.WideShapes.add_plain, ← Nat.add_assoc] at g1; exact g1
        · intro e he
          simp only [List.mem_map, List.mem_range] at he
          obtain ⟨j, hj, rfl⟩ := he
          exact (hq' j hj).2.2
end Go.Proofs.YtcnabebcckbfkaaDoor
