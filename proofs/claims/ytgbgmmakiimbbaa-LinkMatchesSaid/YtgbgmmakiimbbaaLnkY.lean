/- Layer 18: lists of calls among the arguments. -/
import Derived.Test.YtgbgmmakiimbbaaLnkS
import Derived.Test.YtgbgmmakiimbbaaArz
namespace Go.Proofs.Ytgbgmmakiimbbaa
open Go.RowKit Go.ChangeShapes Go.WideShapes
set_option linter.unusedVariables false
/-- a call: what is done, a message, whether the first one is asked for -/
structure Opr where
  (kind : Int) (m : Ms) (first : Bool)
instance : Inhabited Opr := ⟨⟨0, ⟨⟨0, 0, 0, 0, 0⟩, []⟩, false⟩⟩
/-- a call lies in eight cells -/
def OpAt (n₀ : Nat) (w : World) (b o : Nat) (x : Opr) : Prop := ∃ u, (w.cell? ⟨b, o, none⟩ = some (.int .i64 x.kind) ∧ w.cell? ⟨b, o + 1, none⟩ = some (.int .i64 x.m.t.a) ∧ w.cell? ⟨b, o + 2, none⟩ = some (.int .i64 x.m.t.b) ∧ w.cell? ⟨b, o + 3, none⟩ = some (.int .i64 x.m.t.c) ∧
  w.cell? ⟨b, o + 4, none⟩ = some (.int .i64 x.m.t.d) ∧ w.cell? ⟨b, o + 5, none⟩ = some (.int .i64 x.m.t.e) ∧ w.cell? ⟨b, o + 6, none⟩ = some u ∧ w.cell? ⟨b, o + 7, none⟩ = some (.bool x.first)) ∧ IntsW .i64 n₀ w u x.m.zs
def OpsAt (n₀ : Nat) (w : World) (v : Value) (xs : List Opr) : Prop := (xs = [] ∧ ∃ a c, v = .slice a 0 c) ∨ ∃ b off cap, v = .slice (some ⟨b, off, none⟩) xs.length cap ∧ b < n₀ ∧ ∀ i x, xs[i]? = some x → OpAt n₀ w b (off + i * 8) x
theorem OpAt.below {n₀ b o : Nat} {w w' : World} {x : Opr} (h : OpAt n₀ w b o x) (hb : Below n₀ w w') (hlt : b < n₀) : OpAt n₀ w' b o x := by
  obtain ⟨u, ⟨c0, c1, c2, c3, c4, c5, c6, c7⟩, hu⟩ := h
  exact ⟨u, ⟨(hb.cell (p := ⟨b, _, none⟩) hlt).trans c0, (hb.cell (p := ⟨b, _, none⟩) hlt).trans c1, (hb.cell (p := ⟨b, _, none⟩) hlt).trans c2, (hb.cell (p := ⟨b, _, none⟩) hlt).trans c3, (hb.cell (p := ⟨b, _, none⟩) hlt).trans c4, (hb.cell (p := ⟨b, _, none⟩) hlt).trans c5, (hb.cell (p := ⟨b, _, none⟩) hlt).trans c6, (hb.cell (p := ⟨b, _, none⟩) hlt).trans c7⟩, hu.below hb⟩
theorem OpsAt.below {n₀ : Nat} {w w' : World} {v : Value} {xs : List Opr} (h : OpsAt n₀ w v xs) (hb : Below n₀ w w') : OpsAt n₀ w' v xs := by
  rcases h with h | ⟨b, off, cap, e, hlt, hc⟩
  · exact .inl h
  · exact .inr ⟨b, off, cap, e, hlt, fun i x hx => (hc i x hx).below hb hlt⟩
theorem OpsAt.value {n₀ : Nat} {w : World} {v : Value} {xs : List Opr} (h : OpsAt n₀ w v xs) : ∃ a c, v = .slice a xs.length c := by
  rcases h with ⟨rfl, a, c, rfl⟩ | ⟨b, off, cap, rfl, _⟩ <;> exact ⟨_, _, rfl⟩
theorem list8 {α : Type} {cs : List α} (h : cs.length = 8) : ∃ c0 c1 c2 c3 c4 c5 c6 c7, cs = [c0, c1, c2, c3, c4, c5, c6, c7] := by
  match cs, h with
  | [c0, c1, c2, c3, c4, c5, c6, c7], _ => exact ⟨c0, c1, c2, c3, c4, c5, c6, c7, rfl⟩
section
variable {H : Type} {enc : TypeId × Value → H} {w : World}
theorem reads_opr {cs : List Value} (hl : cs.length = 8) (h : ReadsZ enc Try.prog w 36 cs) : ∃ (x : Opr) (u : Value), cs = [.int .i64 x.kind, .int .i64 x.m.t.a, .int .i64 x.m.t.b, .int .i64 x.m.t.c, .int .i64 x.m.t.d, .int .i64 x.m.t.e, u, .bool x.first] ∧ IntsW .i64 w.heap.size w u x.m.zs ∧ x.m.zs.length * 8 ≤ 140737488351232 := by
  obtain ⟨c0, c1, c2, c3, c4, c5, c6, c7, rfl⟩ := list8 hl
  have F0 := readsZ_field (k := 1) (cs' := [c0]) Try.underlying36 h 0 _ rfl rfl rfl (by kernel_rfl) rfl
  have F1 := readsZ_field (k := 6) (cs' := [c1, c2, c3, c4, c5, c6]) Try.underlying36 h 1 _ rfl rfl rfl (by kernel_rfl) rfl
  have F2 := readsZ_field (k := 1) (cs' := [c7]) Try.underlying36 h 2 _ rfl rfl rfl (by kernel_rfl) rfl
  have G0 := readsZ_field (k := 5) (cs' := [c1, c2, c3, c4, c5]) Try.underlying34 F1 0 _ rfl rfl rfl (by kernel_rfl) rfl
  have G1 := readsZ_field (k := 1) (cs' := [c6]) Try.underlying34 F1 1 _ rfl rfl rfl (by kernel_rfl) rfl
  have T0 := readsZ_field (k := 1) (cs' := [c1]) Try.underlying31 G0 0 _ rfl rfl rfl (by kernel_rfl) rfl
  have T1 := readsZ_field (k := 1) (cs' := [c2]) Try.underlying31 G0 1 _ rfl rfl rfl (by kernel_rfl) rfl
  have T2 := readsZ_field (k := 1) (cs' := [c3]) Try.underlying31 G0 2 _ rfl rfl rfl (by kernel_rfl) rfl
  have T3 := readsZ_field (k := 1) (cs' := [c4]) Try.underlying31 G0 3 _ rfl rfl rfl (by kernel_rfl) rfl
  have T4 := readsZ_field (k := 1) (cs' := [c5]) Try.underlying31 G0 4 _ rfl rfl rfl (by kernel_rfl) rfl
  obtain ⟨k, rfl, _⟩ := reads_int Try.underlying3 F0.plain
  obtain ⟨a, rfl, _⟩ := reads_int Try.underlying3 T0.plain
  obtain ⟨b, rfl, _⟩ := reads_int Try.underlying3 T1.plain
  obtain ⟨c, rfl, _⟩ := reads_int Try.underlying3 T2.plain
  obtain ⟨d, rfl, _⟩ := reads_int Try.underlying3 T3.plain
  obtain ⟨e, rfl, _⟩ := reads_int Try.underlying3 T4.plain
  obtain ⟨f, rfl⟩ := reads_bool Try.underlying4 F2.plain
  obtain ⟨zs, hz, _, hm⟩ := readsZ_ints Try.underlying32 Try.underlying2 (by kernel_rfl) (bytes := 8) (by kernel_rfl) G1
  exact ⟨⟨k, ⟨⟨a, b, c, d, e⟩, zs⟩, f⟩, c6, rfl, hz, hm⟩
theorem reads_ops {v : Value} (h : ReadsZ enc Try.prog w 22 [v]) : ∃ xs : List Opr, OpsAt w.heap.size w v xs ∧ xs.length ≤ maxLen ∧ ∀ x ∈ xs, x.m.zs.length * 8 ≤ 140737488351232 := by
  rcases readsZ_slice Try.underlying22 (k := 8) (by kernel_rfl) h with rfl | ⟨a, len, cap, rfl, hl, hm, hx⟩
  · exact ⟨[], .inl ⟨rfl, _, _, rfl⟩, by simp, by simp⟩
  · have h0 : ∀ i, i < len → ∃ x : Opr, (∃ u, (w.cell? (a.add (i * 8 + 0)) = some (.int .i64 x.kind) ∧ w.cell? (a.add (i * 8 + 1)) = some (.int .i64 x.m.t.a) ∧ w.cell? (a.add (i * 8 + 2)) = some (.int .i64 x.m.t.b) ∧ w.cell? (a.add (i * 8 + 3)) = some (.int .i64 x.m.t.c) ∧
        w.cell? (a.add (i * 8 + 4)) = some (.int .i64 x.m.t.d) ∧ w.cell? (a.add (i * 8 + 5)) = some (.int .i64 x.m.t.e) ∧ w.cell? (a.add (i * 8 + 6)) = some u ∧ w.cell? (a.add (i * 8 + 7)) = some (.bool x.first)) ∧ IntsW .i64 w.heap.size w u x.m.zs) ∧ x.m.zs.length * 8 ≤ 140737488351232 := by
      intro i hi
      obtain ⟨cs', hl', hc, hr⟩ := hx i hi
      obtain ⟨x, u, rfl, hu, hz⟩ := reads_opr hl' hr
      exact ⟨x, ⟨u, ⟨hc 0 (by omega), hc 1 (by omega), hc 2 (by omega), hc 3 (by omega), hc 4 (by omega), hc 5 (by omega), hc 6 (by omega), hc 7 (by omega)⟩, hu⟩, hz⟩
    obtain ⟨q, hq⟩ := Go.Deep.choose_lt h0
    rcases Nat.eq_zero_or_pos len with hz | hpos
    · subst hz
      exact ⟨[], .inl ⟨rfl, _, _, rfl⟩, by simp, by simp⟩
    · obtain ⟨b, off, spot⟩ := a
      obtain ⟨⟨u0, ⟨g0, _⟩, _⟩, _⟩ := hq 0 (by omega)
      have hb := World.block_lt_of_cell? _ _ g0
      cases spot with
      | some s =>
        simp only [World.cell?, Addr.add, if_true, Option.isSome_some] at g0
        split at g0 <;> cases g0
      | none =>
        refine ⟨(List.range len).map q, .inr ⟨b, off, cap, by simp, by simpa [Addr.add] using hb, fun i x hx' => ?_⟩, by simp; omega, ?_⟩
        · have hi : i < len := by
            apply Nat.lt_of_not_le; intro hge
            rw [List.getElem?_eq_none (by simp; omega)] at hx'; cases hx'
          rw [List.getElem?_map, List.getElem?_range hi] at hx'
          obtain rfl := Option.some.inj hx'
          obtain ⟨⟨u, ⟨e0, e1, e2, e3, e4, e5, e6, e7⟩, hu⟩, _⟩ := hq i hi
          simp only [Go.WideShapes.add_plain, Nat.add_zero, ← Nat.add_assoc] at e0 e1 e2 e3 e4 e5 e6 e7
          exact ⟨u, ⟨e0, e1, e2, e3, e4, e5, e6, e7⟩, hu⟩
        · intro x hx'
          simp only [List.mem_map, List.mem_range] at hx'
          obtain ⟨j, hj, rfl⟩ := hx'
          exact (hq j hj).2
end
end Go.Proofs.Ytgbgmmakiimbbaa
