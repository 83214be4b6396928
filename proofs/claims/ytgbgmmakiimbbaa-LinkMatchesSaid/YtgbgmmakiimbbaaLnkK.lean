/- Layer 18: two lists with the same messages. -/
import Derived.Test.YtgbgmmakiimbbaaLnkJ
namespace Go.Proofs.Ytgbgmmakiimbbaa
open Go.RowKit
set_option linter.unusedVariables false
/-- a slice that holds messages, wherever their values lie -/
def MsgsR (w : World) (v : Value) (ms : List Ms) : Prop :=
  (v = .slice none 0 0 ∧ ms = []) ∨ ∃ g off cap, v = .slice (some ⟨g, off, none⟩) ms.length cap ∧ ms.length ≤ cap ∧ ∀ i m, ms[i]? = some m → ∃ u,
    (w.cell? ⟨g, off + i * 6, none⟩ = some (.int .i64 m.t.a) ∧ w.cell? ⟨g, off + i * 6 + 1, none⟩ = some (.int .i64 m.t.b) ∧ w.cell? ⟨g, off + i * 6 + 2, none⟩ = some (.int .i64 m.t.c) ∧ w.cell? ⟨g, off + i * 6 + 3, none⟩ = some (.int .i64 m.t.d) ∧ w.cell? ⟨g, off + i * 6 + 4, none⟩ = some (.int .i64 m.t.e) ∧ w.cell? ⟨g, off + i * 6 + 5, none⟩ = some u) ∧
    IntsW .i64 w.heap.size w u m.zs
theorem MsgsR.later {w w' : World} {v : Value} {ms : List Ms} (h : MsgsR w v ms) (hb : Below w.heap.size w w') : MsgsR w' v ms := by
  rcases h with h | ⟨g, off, cap, e, hcp, hc⟩
  · exact .inl h
  · refine .inr ⟨g, off, cap, e, hcp, fun i m hm => ?_⟩
    obtain ⟨u, ⟨c0, c1, c2, c3, c4, c5⟩, hu⟩ := hc i m hm
    exact ⟨u, ⟨cell_step hb c0, cell_step hb c1, cell_step hb c2, cell_step hb c3, cell_step hb c4, cell_step hb c5⟩, (hu.below hb).grow hb.size⟩
theorem MsgsR.value {w : World} {v : Value} {ms : List Ms} (h : MsgsR w v ms) : ∃ a c, v = .slice a ms.length c := by
  rcases h with ⟨rfl, rfl⟩ | ⟨g, off, cap, rfl, _, _⟩ <;> exact ⟨_, _, rfl⟩
theorem sameL_refl (zs : List Int) : sameL zs zs = true := by
  have h : ∀ (k : Int) (l : List Int), differ k l l = -1 := by
    intro k l
    induction l generalizing k with
    | nil => simp [differ]
    | cons x l ih => simp [differ, ih]
  unfold sameL
  rw [h]
  decide
theorem sameM_refl (m : Ms) : sameM m m = true := by
  unfold sameM
  rw [sameL_refl, tagB_true.2 rfl]
  rfl
set_option maxHeartbeats 2000000 in
theorem sameAll_same (v u : Value) (ms : List Ms) (hn : ms.length ≤ 1048576) (hz : ∀ m ∈ ms, m.zs.length * 8 ≤ 140737488351232) (w : World) (hv : MsgsR w v ms) (hu : MsgsR w u ms) :
    Calls Try.prog 32 #[v, u] w fun e w' => e = .returned (.bool true) ∧ Below w.heap.size w w' := by
  have HV := Lib.hid hv
  have HU := Lib.hid hu
  have HZ := Lib.hid hz
  obtain ⟨a, c, rfl⟩ := hv.value
  obtain ⟨a2, c2, rfl⟩ := hu.value
  clear hv hu hz
  go_enter Try.func32, Try.ntmps32
  go_wp2_with fail
  go_loopw [5] (fun i wr => ∃ j : Nat, j ≤ ms.length ∧ i = .int .i64 j ∧ Below w.heap.size w wr) (fun i _ => ms.length - (intOf i).toNat)
  case atStart => exact ⟨0, Nat.zero_le _, rfl, Below.refl _ _⟩
  case round =>
    obtain ⟨j, hj, rfl, hB⟩ := hrel
    by_cases hlt : j < ms.length
    · have hdec : decide ((j : Int) < (ms.length : Int)) = true := by simp; omega
      obtain ⟨m, hm⟩ : ∃ m, ms[j]? = some m := ⟨_, List.getElem?_eq_getElem hlt⟩
      have hmz := HZ.out m (List.mem_of_getElem? hm)
      rcases HV.out.later hB with ⟨_, h0⟩ | ⟨g, of, cp, e0, _, hc⟩
      · rw [h0] at hlt; simp at hlt
      cases e0
      rcases HU.out.later hB with ⟨_, h0⟩ | ⟨g2, of2, cp2, e0, _, hc2⟩
      · rw [h0] at hlt; simp at hlt
      cases e0
      obtain ⟨p1, ⟨x0, x1, x2, x3, x4, x5⟩, hp1⟩ := hc j m hm
      obtain ⟨p2, ⟨y0, y1, y2, y3, y4, y5⟩, hp2⟩ := hc2 j m hm
      have i0 : (0 : Int) ≤ (j : Int) := by omega
      have i1 : (j : Int) < (ms.length : Int) := by omega
      obtain ⟨q1, r1, rfl⟩ := hp1.value
      obtain ⟨q2, r2, rfl⟩ := hp2.value
      have HP1 := Lib.hid hp1
      have HP2 := Lib.hid hp2
      have HB := Lib.hid hB
      clear hc hc2 hp1 hp2 hB hm
      go_upto_region 6 with fail
      refine wp_region_held_drew (S := fun w' => w'.cell? ⟨g, of + j * 6, none⟩ = some (.int .i64 m.t.a) ∧ w'.cell? ⟨g, of + j * 6 + 1, none⟩ = some (.int .i64 m.t.b) ∧ w'.cell? ⟨g, of + j * 6 + 2, none⟩ = some (.int .i64 m.t.c) ∧ w'.cell? ⟨g, of + j * 6 + 3, none⟩ = some (.int .i64 m.t.d) ∧ w'.cell? ⟨g, of + j * 6 + 4, none⟩ = some (.int .i64 m.t.e) ∧ w'.cell? ⟨g, of + j * 6 + 5, none⟩ = some (.slice q1 m.zs.length r1) ∧ w'.cell? ⟨g2, of2 + j * 6, none⟩ = some (.int .i64 m.t.a) ∧ w'.cell? ⟨g2, of2 + j * 6 + 1, none⟩ = some (.int .i64 m.t.b) ∧ w'.cell? ⟨g2, of2 + j * 6 + 2, none⟩ = some (.int .i64 m.t.c) ∧ w'.cell? ⟨g2, of2 + j * 6 + 3, none⟩ = some (.int .i64 m.t.d) ∧ w'.cell? ⟨g2, of2 + j * 6 + 4, none⟩ = some (.int .i64 m.t.e) ∧ w'.cell? ⟨g2, of2 + j * 6 + 5, none⟩ = some (.slice q2 m.zs.length r2) ∧ Below wr.heap.size wr w') (by kernel_rfl) ?_ (fun hHeld => ?_)
      · exact ⟨x0, x1, x2, x3, x4, x5, y0, y1, y2, y3, y4, y5, (Below.refl _ _).drew⟩
      refine wpAnyH_take (i := 0) (v := ?v1) rfl (by kernel_rfl) (by kernel_rfl) (by kernel_rfl) (fun _ _ _ h => h) (Or.inl ⟨by rfl, ?hy1⟩) (by assumption) ?rest1
      case hy1 => (intro w hSw; (try dsimp only at hSw); go_simp; (first | done | with_reducible rfl))
      simp only [Act.put, List.setIfInBounds_toArray, List.set_cons_zero, List.set_cons_succ, List.getElem_toArray, List.getElem_cons_zero]
      refine wpAnyH_take (i := 1) (v := ?v2) rfl (by kernel_rfl) (by kernel_rfl) (by kernel_rfl) (fun _ _ _ h => h) (Or.inl ⟨by rfl, ?hy2⟩) (by assumption) ?rest2
      case hy2 => (intro w hSw; (try dsimp only at hSw); go_simp; (first | done | with_reducible rfl))
      simp only [Act.put, List.setIfInBounds_toArray, List.set_cons_zero, List.set_cons_succ, List.getElem_toArray, List.getElem_cons_zero, List.getElem_cons_succ]
      refine wpAnyH_take (i := 2) (v := ?v3) rfl (by kernel_rfl) (by kernel_rfl) (by kernel_rfl) (fun _ _ _ h => h) (Or.inl ⟨by rfl, ?hy3⟩) (by assumption) ?rest3
      case hy3 => (intro w hSw; (try dsimp only at hSw); go_simp; (first | done | with_reducible rfl))
      simp only [Act.put, List.setIfInBounds_toArray, List.set_cons_zero, List.set_cons_succ, List.getElem_toArray, List.getElem_cons_zero, List.getElem_cons_succ]
      refine wpAnyH_take (i := 3) (v := ?v4) rfl (by kernel_rfl) (by kernel_rfl) (by kernel_rfl) (fun _ _ _ h => h) (Or.inl ⟨by rfl, ?hy4⟩) (by assumption) ?rest4
      case hy4 => (intro w hSw; (try dsimp only at hSw); go_simp; (first | done | with_reducible rfl))
      simp only [Act.put, List.setIfInBounds_toArray, List.set_cons_zero, List.set_cons_succ, List.getElem_toArray, List.getElem_cons_zero, List.getElem_cons_succ]
      refine wpAnyH_take (i := 4) (v := ?v5) rfl (by kernel_rfl) (by kernel_rfl) (by kernel_rfl) (fun _ _ _ h => h) (Or.inl ⟨by rfl, ?hy5⟩) (by assumption) ?rest5
      case hy5 => (intro w hSw; (try dsimp only at hSw); go_simp; (first | done | with_reducible rfl))
      simp only [Act.put, List.setIfInBounds_toArray, List.set_cons_zero, List.set_cons_succ, List.getElem_toArray, List.getElem_cons_zero, List.getElem_cons_succ]
      refine wpAnyH_take (i := 5) (v := ?v6) rfl (by kernel_rfl) (by kernel_rfl) (by kernel_rfl) (fun _ _ _ h => h) (Or.inl ⟨by rfl, ?hy6⟩) (by assumption) ?rest6
      case hy6 => (intro w hSw; (try dsimp only at hSw); go_simp; (first | done | with_reducible rfl))
      simp only [Act.put, List.setIfInBounds_toArray, List.set_cons_zero, List.set_cons_succ, List.getElem_toArray, List.getElem_cons_zero, List.getElem_cons_succ]
      refine wpAnyH_take (i := 6) (v := ?v7) rfl (by kernel_rfl) (by kernel_rfl) (by kernel_rfl) (fun _ _ _ h => h) (Or.inl ⟨by rfl, ?hy7⟩) (by assumption) ?rest7
      case hy7 => (intro w hSw; (try dsimp only at hSw); go_simp; (first | done | with_reducible rfl))
      simp only [Act.put, List.setIfInBounds_toArray, List.set_cons_zero, List.set_cons_succ, List.getElem_toArray, List.getElem_cons_zero, List.getElem_cons_succ]
      refine wpAnyH_take (i := 7) (v := ?v8) rfl (by kernel_rfl) (by kernel_rfl) (by kernel_rfl) (fun _ _ _ h => h) (Or.inl ⟨by rfl, ?hy8⟩) (by assumption) ?rest8
      case hy8 => (intro w hSw; (try dsimp only at hSw); go_simp; (first | done | with_reducible rfl))
      simp only [Act.put, List.setIfInBounds_toArray, List.set_cons_zero, List.set_cons_succ, List.getElem_toArray, List.getElem_cons_zero, List.getElem_cons_succ]
      refine wpAnyH_ready (rs := [8]) (by kernel_rfl) (by simp) ?_
      refine AllReadyH.cons rfl (fun K hK => ?_) AllReadyH.nil
      simp only [List.getElem_toArray, List.getElem_cons_zero, List.getElem_cons_succ]
      obtain ⟨_, _, _, _, _, _, _, _, _, _, _, _, h_B⟩ := hHeld
      go_simp
      go_at_call 16
      refine (refSameM_any m.t m.t (.slice q1 m.zs.length r1) (.slice q2 m.zs.length r2) m.zs m.zs hmz hmz _ ((HP1.out.below h_B).grow h_B.size) ((HP2.out.below h_B).grow h_B.size)).mono ?_
      rintro e w5 ⟨rfl, b5⟩
      rw [show sameM ⟨m.t, m.zs⟩ ⟨m.t, m.zs⟩ = true from sameM_refl m]
      have b6 : Below wr.heap.size wr w5 := h_B.trans (b5.mono h_B.size)
      go_wp2_with fail
      refine hK.out _ _ ⟨cell_step b6 x0, cell_step b6 x1, cell_step b6 x2, cell_step b6 x3, cell_step b6 x4, cell_step b6 x5, cell_step b6 y0, cell_step b6 y1, cell_step b6 y2, cell_step b6 y3, cell_step b6 y4, cell_step b6 y5, b6⟩ (fun hHeld => ?_)
      clear hK K b5 h_B
      try simp only [Act.put, List.setIfInBounds_toArray, List.set_cons_zero, List.set_cons_succ, List.getElem_toArray, List.getElem_cons_zero, List.getElem_cons_succ]
      refine wpAnyH_take (i := 9) (v := ?v9) rfl (by kernel_rfl) (by kernel_rfl) (by kernel_rfl) (fun _ _ _ h => h) (Or.inl ⟨by rfl, ?hy9⟩) (by assumption) ?rest9
      case hy9 => (intro w hSw; (try dsimp only at hSw); go_simp; (first | done | with_reducible rfl))
      simp only [Act.put, List.setIfInBounds_toArray, List.set_cons_zero, List.set_cons_succ, List.getElem_toArray, List.getElem_cons_zero, List.getElem_cons_succ]
      refine wpAnyH_done (by kernel_rfl) ?_ _
      have HB6 := Lib.hid (HB.out.trans (b6.mono HB.out.size))
      have wj : IntKind.i64.wrap ((j : Int) + 1) = j + 1 := IntWalk.i64_in _ (by omega)
      clear hHeld b6 x0 x1 x2 x3 x4 x5 y0 y1 y2 y3 y4 y5
      go_wp2_with fail
      go_roundw
      case rel => exact ⟨j + 1, by omega, by go_num, HB6.out⟩
      case measure => simp [intOf]; omega
    · have hje : j = ms.length := by omega
      subst hje
      have hdec : decide ((ms.length : Int) < (ms.length : Int)) = false := by simp
      have HB := Lib.hid hB
      clear hB
      go_wp2_with fail
      go_ret
      exact ⟨rfl, HB.out⟩
end Go.Proofs.Ytgbgmmakiimbbaa
