/- Layer 8: the ranges of weights and biases. -/
import Derived.Test.YtdnaildhcnekfaaDoorShpB
import Derived.Test.YtdnaildhcnekfaaDoorPartD
namespace Go.Proofs.YtdnaildhcnekfaaDoor
open Go.RowKit
set_option linter.unusedVariables false
/-- two cells -/
def Two (w : World) (b : Nat) (t : TypeId) (x0 x1 : Value) : Prop := w.heap[b]? = some (.cells #[x0, x1] t (0, 0))
theorem Two.new (w : World) (t : TypeId) (x0 x1 : Value) : Two (w.alloc (.cells #[x0, x1] t)) w.heap.size t x0 x1 := (MapKept.heap_alloc _ _).1
theorem Two.lt {w : World} {b : Nat} {t : TypeId} {x0 x1 : Value} (h : Two w b t x0 x1) : b < w.heap.size := (Array.getElem?_eq_some_iff.1 h).1
theorem Two.later {w w' : World} {b : Nat} {t : TypeId} {x0 x1 : Value} (h : Two w b t x0 x1) (hb : Below w.heap.size w w') : Two w' b t x0 x1 := (hb.block b h.lt).trans h
theorem Two.cells {w : World} {b : Nat} {t : TypeId} {x0 x1 : Value} (h : Two w b t x0 x1) : w.cell? ⟨b, 0, none⟩ = some x0 ∧ w.cell? ⟨b, 1, none⟩ = some x1 := by
  have e : w.heap[b]? = _ := h
  exact ⟨by simp [World.cell?, e], by simp [World.cell?, e]⟩
theorem Two.frozen {w : World} {b : Nat} {t : TypeId} {x0 x1 : Value} (h : Two w b t x0 x1) (j : Nat) : w.frozen? ⟨b, j, none⟩ = false := by
  simp [World.frozen?, show w.heap[b]? = _ from h]
theorem Two.set_heap {w : World} {b : Nat} {t : TypeId} {x0 x1 : Value} (h : Two w b t x0 x1) (j : Nat) (v : Value) : (w.setCell ⟨b, j, none⟩ v).heap[b]? = some (.cells (#[x0, x1].setIfInBounds j v) t (0, 0)) := by
  obtain ⟨hlt, hk⟩ := Array.getElem?_eq_some_iff.1 h
  show (w.heap.modify b _)[b]? = _
  rw [Array.getElem?_eq_getElem (by rw [Array.size_modify]; exact hlt), Array.getElem_modify_self, hk]
  rfl
theorem Two.store {w : World} {b : Nat} {t : TypeId} {x0 x1 : Value} (h : Two w b t x0 x1) (y0 y1 : Value) : Two ((w.setCell ⟨b, 0, none⟩ y0).setCell ⟨b, 1, none⟩ y1) b t y0 y1 := by
  have s0 : Two _ b t y0 x1 := h.set_heap 0 y0
  exact s0.set_heap 1 y1
theorem cell?_far {w w' : World} {B g o : Nat} {x : Value} (h : w.grownBy w' (some B)) (hne : g ≠ B) (hc : w.cell? ⟨g, o, none⟩ = some x) (_ : True) : w'.cell? ⟨g, o, none⟩ = some x := (grown_cell h (World.block_lt_of_cell? _ _ hc) hne).trans hc
theorem link_any (N b : Nat) (ss : List Int) (hm : ss.length ≤ 1048576) (k : Int) (w : World) (h : ShapeAt N b w ss) :
    Calls Tryd.prog 30 #[.pointer (some ⟨b, 0, none⟩), .int .i64 k] w fun e w' => e = .returned (.bool (decide (0 ≤ k) && decide (k < ((ss.length - 1 : Nat) : Int)))) ∧ Below w.heap.size w w' := by
  have HL := Lib.hid (links_any N b ss hm w h)
  clear h
  by_cases h0 : 0 ≤ k
  · have g0 : decide (0 ≤ k) = true := by simpa using h0
    go_enter Tryd.func30, Tryd.ntmps30
    go_wp2_with fail
    refine HL.out.mono ?_
    rintro e w1 ⟨rfl, rfl⟩
    go_wp2_with fail
    go_ret
    exact ⟨by simp [h0], Below.refl _ _⟩
  · have g0 : decide (0 ≤ k) = false := by simpa using h0
    have g1 : ¬ 0 ≤ k := h0
    go_enter Tryd.func30, Tryd.ntmps30
    go_wp2_with fail
    go_ret
    exact ⟨by simp [], Below.refl _ _⟩
/-- the weights and the biases of a link -/
def wR (ss : List Int) (k : Nat) : Int × Int := (stTo ss k, stTo ss (k + 1) - ss[k + 1]?.getD 0)
def bR (ss : List Int) (k : Nat) : Int × Int := (stTo ss (k + 1) - ss[k + 1]?.getD 0, stTo ss (k + 1))
set_option maxHeartbeats 1000000 in
theorem weights_in (N b : Nat) (ss : List Int) (hr : RightH ss) (k : Nat) (hk : k + 1 < ss.length) (w : World) (h : ShapeAt N b w ss) :
    Calls Tryd.prog 16 #[.pointer (some ⟨b, 0, none⟩), .int .i64 k] w fun e w' => e = .returned (.agg #[.int .i64 (wR ss k).1, .int .i64 (wR ss k).2]) ∧ Below w.heap.size w w' := by
  have h16 := hr.l16
  have r1 := st_range (k := k) hr.good (.inl (by omega))
  have r2 := st_range (k := k + 1) hr.good (.inl (by omega))
  have r3 := goodB_iff.1 (hr.good (k + 1) hk)
  have bA := (Below.refl w.heap.size w).alloc (Nat.le_refl _) (.cells #[.int .i64 0, .int .i64 0] 35)
  have hA := h.later bA
  have T := Two.new w 35 (.int .i64 0) (.int .i64 0)
  have hl := link_any N b ss (by omega) k _ hA
  rw [show (decide (0 ≤ (k : Int)) && decide ((k : Int) < ((ss.length - 1 : Nat) : Int))) = true by simp; omega] at hl
  have HA := Lib.hid hA
  have HT := Lib.hid T
  have H0 := Lib.hid h
  clear hA T h
  go_enter Tryd.func16, Tryd.ntmps16
  go_wp2_with fail
  refine hl.mono ?_
  rintro e w1 ⟨rfl, b1⟩
  have T1 := HT.out.later b1
  have hbb := bA.trans (b1.mono bA.size)
  have B1 := Lib.hid hbb
  have hsz : w.heap.size < w1.heap.size := T1.lt
  obtain ⟨h0, hb, h2, v, u, c0', c1', o0', o1'⟩ := H0.out
  obtain ⟨g1, cc1, rfl, hg1, hg2⟩ := own_some o1' (by omega)
  obtain ⟨g0, cc0, rfl, hg3, hg4⟩ := own_some o0' (by omega)
  have c0 := cell_step hbb c0'
  have c1 := cell_step hbb c1'
  have o0 := own_below o0' hbb
  have o1 := own_below o1' hbb
  clear c0' c1' o0' o1' hbb H0
  have d0 := o1.cellAt k (by omega)
  have d1 := o1.cellAt (k + 1) (by omega)
  have d2 := o0.cellAt (k + 1) (by omega)
  rw [List.getElem?_map, stL_at ss _ _ (by omega)] at d0 d1
  have e2 : (ss.map (Value.int .i64))[k + 1]? = some (.int .i64 (ss[k + 1]?.getD 0)) := by rw [List.getElem?_map, List.getElem?_eq_getElem hk]; rfl
  rw [e2] at d2
  simp only [Option.map_some] at d0 d1
  clear e2 o0 o1 HA HT hl b1 bA
  generalize hx0 : stTo ss k = x0 at *
  generalize hx1 : stTo ss (k + 1) = x1 at *
  generalize hx2 : ss[k + 1]?.getD 0 = x2 at *
  have HX : Hid (wR ss k = (x0, x1 - x2)) := Lib.hid (by unfold wR; rw [hx0, hx1, hx2])
  clear hx0 hx1 hx2
  have wk : IntKind.i64.wrap ((k : Int) + 1) = ((k + 1 : Nat) : Int) := (IntWalk.i64_in _ (by omega)).trans (by omega)
  have wk2 : (k : Int) + 1 = ((k + 1 : Nat) : Int) := by omega
  have ws : IntKind.i64.wrap (x1 - x2) = x1 - x2 := IntWalk.i64_in _ (by omega)
  have i0 : (0 : Int) ≤ (k : Int) := by omega
  have i1 : (k : Int) < (ss.length : Int) := by omega
  generalize hk1 : k + 1 = k1 at *
  have i2 : (0 : Int) ≤ (k1 : Int) := by omega
  have i3 : (k1 : Int) < (ss.length : Int) := by omega
  have i4 : k1 < ss.length := by omega
  have i5 : k < ss.length := by omega
  have wkk : IntKind.i64.wrap (k1 : Int) = k1 := IntWalk.i64_in _ (by omega)
  clear hk1
  obtain ⟨t0, t1⟩ := T1.cells
  have f0 := T1.frozen 0
  have f1 := T1.frozen 1
  have HTT := Lib.hid T1
  clear T1
  go_upto_region 3 with fail
  refine wp_region_held_drew (S := fun w' => w'.cell? ⟨b, 0, none⟩ = some (.slice (some ⟨g0, 0, none⟩) ss.length cc0) ∧ w'.cell? ⟨b, 1, none⟩ = some (.slice (some ⟨g1, 0, none⟩) ss.length cc1) ∧ w'.cell? ⟨g1, k, none⟩ = some (.int .i64 x0) ∧ w'.cell? ⟨g1, k1, none⟩ = some (.int .i64 x1) ∧ w'.cell? ⟨g0, k1, none⟩ = some (.int .i64 x2)) (by kernel_rfl) ?_ (fun hHeld => ?_)
  · exact ⟨c0, c1, d0, d1, d2⟩
  refine wpAnyH_take (i := 0) (v := ?v1) rfl (by kernel_rfl) (by kernel_rfl) (by kernel_rfl) (fun _ _ _ h => h) (Or.inl ⟨by rfl, ?hy1⟩) (by assumption) ?rest1
  case hy1 => (intro w hSw; (try dsimp only at hSw); go_simp; (first | done | with_reducible rfl))
  simp only [Act.put, List.setIfInBounds_toArray, List.set_cons_zero, List.set_cons_succ, List.getElem_toArray, List.getElem_cons_zero]
  refine wpAnyH_take (i := 1) (v := ?v2) rfl (by kernel_rfl) (by kernel_rfl) (by kernel_rfl) (fun _ _ _ h => h) (Or.inl ⟨by rfl, ?hy2⟩) (by assumption) ?rest2
  case hy2 => (intro w hSw; (try dsimp only at hSw); go_simp; (first | done | with_reducible rfl))
  simp only [Act.put, List.setIfInBounds_toArray, List.set_cons_zero, List.set_cons_succ, List.getElem_toArray, List.getElem_cons_zero, List.getElem_cons_succ]
  refine wpAnyH_take (i := 2) (v := ?v3) rfl (by kernel_rfl) (by kernel_rfl) (by kernel_rfl) (fun _ _ _ h => h) (Or.inl ⟨by rfl, ?hy3⟩) (by assumption) ?rest3
  case hy3 => (intro w hSw; (try dsimp only at hSw); go_simp; (first | done | with_reducible rfl))
  simp only [Act.put, List.setIfInBounds_toArray, List.set_cons_zero, List.set_cons_succ, List.getElem_toArray, List.getElem_cons_zero, List.getElem_cons_succ]
  refine wpAnyH_take (i := 3) (v := ?v4) rfl (by kernel_rfl) (by kernel_rfl) (by kernel_rfl) (fun _ _ _ h => h) (Or.inl ⟨by rfl, ?hy4⟩) (by assumption) ?rest4
  case hy4 => (intro w hSw; (try dsimp only at hSw); go_simp; (first | done | with_reducible rfl))
  simp only [Act.put, List.setIfInBounds_toArray, List.set_cons_zero, List.set_cons_succ, List.getElem_toArray, List.getElem_cons_zero, List.getElem_cons_succ]
  refine wpAnyH_take (i := 4) (v := ?v5) rfl (by kernel_rfl) (by kernel_rfl) (by kernel_rfl) (fun _ _ _ h => h) (Or.inl ⟨by rfl, ?hy5⟩) (by assumption) ?rest5
  case hy5 => (intro w hSw; (try dsimp only at hSw); go_simp; (first | done | with_reducible rfl))
  simp only [Act.put, List.setIfInBounds_toArray, List.set_cons_zero, List.set_cons_succ, List.getElem_toArray, List.getElem_cons_zero, List.getElem_cons_succ]
  refine wpAnyH_take (i := 5) (v := ?v6) rfl (by kernel_rfl) (by kernel_rfl) (by kernel_rfl) (fun _ _ _ h => h) (Or.inl ⟨by rfl, ?hy6⟩) (by assumption) ?rest6
  case hy6 => (intro w hSw; (try dsimp only at hSw); go_simp; (first | done | with_reducible rfl))
  simp only [Act.put, List.setIfInBounds_toArray, List.set_cons_zero, List.set_cons_succ, List.getElem_toArray, List.getElem_cons_zero, List.getElem_cons_succ]
  refine wpAnyH_take (i := 6) (v := ?v7) rfl (by kernel_rfl) (by kernel_rfl) (by kernel_rfl) (fun _ _ _ h => h) (Or.inl ⟨by rfl, ?hy7⟩) (by assumption) ?rest7
  case hy7 => (intro w hSw; (try dsimp only at hSw); go_simp; (first | done | with_reducible rfl))
  simp only [Act.put, List.setIfInBounds_toArray, List.set_cons_zero, List.set_cons_succ, List.getElem_toArray, List.getElem_cons_zero, List.getElem_cons_succ]
  refine wpAnyH_take (i := 7) (v := ?v8) rfl (by kernel_rfl) (by kernel_rfl) (by kernel_rfl) (fun _ _ _ h => h) (Or.inl ⟨by rfl, ?hy8⟩) (by assumption) ?rest8
  case hy8 => (intro w hSw; (try dsimp only at hSw); go_simp; (first | done | with_reducible rfl))
  simp only [Act.put, List.setIfInBounds_toArray, List.set_cons_zero, List.set_cons_succ, List.getElem_toArray, List.getElem_cons_zero, List.getElem_cons_succ]
  refine wpAnyH_take (i := 8) (v := ?v9) rfl (by kernel_rfl) (by kernel_rfl) (by kernel_rfl) (fun _ _ _ h => h) (Or.inl ⟨by rfl, ?hy9⟩) (by assumption) ?rest9
  case hy9 => (intro w hSw; (try dsimp only at hSw); go_simp; (first | done | with_reducible rfl))
  simp only [Act.put, List.setIfInBounds_toArray, List.set_cons_zero, List.set_cons_succ, List.getElem_toArray, List.getElem_cons_zero, List.getElem_cons_succ]
  refine wpAnyH_take (i := 9) (v := ?v10) rfl (by kernel_rfl) (by kernel_rfl) (by kernel_rfl) (fun _ _ _ h => h) (Or.inl ⟨by rfl, ?hy10⟩) (by assumption) ?rest10
  case hy10 => (intro w hSw; (try dsimp only at hSw); go_simp; (first | done | with_reducible rfl))
  simp only [Act.put, List.setIfInBounds_toArray, List.set_cons_zero, List.set_cons_succ, List.getElem_toArray, List.getElem_cons_zero, List.getElem_cons_succ]
  refine wpAnyH_take (i := 10) (v := ?v11) rfl (by kernel_rfl) (by kernel_rfl) (by kernel_rfl) (fun _ _ _ h => h) (Or.inl ⟨by rfl, ?hy11⟩) (by assumption) ?rest11
  case hy11 => (intro w hSw; (try dsimp only at hSw); go_simp; (first | done | with_reducible rfl))
  simp only [Act.put, List.setIfInBounds_toArray, List.set_cons_zero, List.set_cons_succ, List.getElem_toArray, List.getElem_cons_zero, List.getElem_cons_succ]
  refine wpAnyH_take (i := 11) (v := ?v12) rfl (by kernel_rfl) (by kernel_rfl) (by kernel_rfl) (fun _ _ _ h => h) (Or.inl ⟨by rfl, ?hy12⟩) (by assumption) ?rest12
  case hy12 => (intro w hSw; (try dsimp only at hSw); go_simp; (first | done | with_reducible rfl))
  simp only [Act.put, List.setIfInBounds_toArray, List.set_cons_zero, List.set_cons_succ, List.getElem_toArray, List.getElem_cons_zero, List.getElem_cons_succ]
  refine wpAnyH_take (i := 12) (v := ?v13) rfl (by kernel_rfl) (by kernel_rfl) (by kernel_rfl) (fun _ _ _ h => h) (Or.inl ⟨by rfl, ?hy13⟩) (by assumption) ?rest13
  case hy13 => (intro w hSw; (try dsimp only at hSw); go_simp; (first | done | with_reducible rfl))
  simp only [Act.put, List.setIfInBounds_toArray, List.set_cons_zero, List.set_cons_succ, List.getElem_toArray, List.getElem_cons_zero, List.getElem_cons_succ]
  refine wpAnyH_take (i := 13) (v := ?v14) rfl (by kernel_rfl) (by kernel_rfl) (by kernel_rfl) (fun _ _ _ h => h) (Or.inl ⟨by rfl, ?hy14⟩) (by assumption) ?rest14
  case hy14 => (intro w hSw; (try dsimp only at hSw); go_simp; (first | done | with_reducible rfl))
  simp only [Act.put, List.setIfInBounds_toArray, List.set_cons_zero, List.set_cons_succ, List.getElem_toArray, List.getElem_cons_zero, List.getElem_cons_succ]
  refine wpAnyH_take (i := 14) (v := ?v15) rfl (by kernel_rfl) (by kernel_rfl) (by kernel_rfl) (fun _ _ _ h => h) (Or.inl ⟨by rfl, ?hy15⟩) (by assumption) ?rest15
  case hy15 => (intro w hSw; (try dsimp only at hSw); go_simp; (first | done | with_reducible rfl))
  simp only [Act.put, List.setIfInBounds_toArray, List.set_cons_zero, List.set_cons_succ, List.getElem_toArray, List.getElem_cons_zero, List.getElem_cons_succ]
  refine wpAnyH_take (i := 15) (v := ?v16) rfl (by kernel_rfl) (by kernel_rfl) (by kernel_rfl) (fun _ _ _ h => h) (Or.inl ⟨by rfl, ?hy16⟩) (by assumption) ?rest16
  case hy16 => (intro w hSw; (try dsimp only at hSw); go_simp; (first | done | with_reducible rfl))
  simp only [Act.put, List.setIfInBounds_toArray, List.set_cons_zero, List.set_cons_succ, List.getElem_toArray, List.getElem_cons_zero, List.getElem_cons_succ]
  refine wpAnyH_take (i := 16) (v := ?v17) rfl (by kernel_rfl) (by kernel_rfl) (by kernel_rfl) (fun _ _ _ h => h) (Or.inl ⟨by rfl, ?hy17⟩) (by assumption) ?rest17
  case hy17 => (intro w hSw; (try dsimp only at hSw); go_simp; (first | done | with_reducible rfl))
  simp only [Act.put, List.setIfInBounds_toArray, List.set_cons_zero, List.set_cons_succ, List.getElem_toArray, List.getElem_cons_zero, List.getElem_cons_succ]
  refine wpAnyH_take (i := 17) (v := ?v18) rfl (by kernel_rfl) (by kernel_rfl) (by kernel_rfl) (fun _ _ _ h => h) (Or.inl ⟨by rfl, ?hy18⟩) (by assumption) ?rest18
  case hy18 => (intro w hSw; (try dsimp only at hSw); go_simp; (first | done | with_reducible rfl))
  simp only [Act.put, List.setIfInBounds_toArray, List.set_cons_zero, List.set_cons_succ, List.getElem_toArray, List.getElem_cons_zero, List.getElem_cons_succ]
  refine wpAnyH_take (i := 18) (v := ?v19) rfl (by kernel_rfl) (by kernel_rfl) (by kernel_rfl) (fun _ _ _ h => h) (Or.inl ⟨by rfl, ?hy19⟩) (by assumption) ?rest19
  case hy19 => (intro w hSw; (try dsimp only at hSw); go_simp; (first | done | with_reducible rfl))
  simp only [Act.put, List.setIfInBounds_toArray, List.set_cons_zero, List.set_cons_succ, List.getElem_toArray, List.getElem_cons_zero, List.getElem_cons_succ]
  refine wpAnyH_take (i := 19) (v := ?v20) rfl (by kernel_rfl) (by kernel_rfl) (by kernel_rfl) (fun _ _ _ h => h) (Or.inl ⟨by rfl, ?hy20⟩) (by assumption) ?rest20
  case hy20 => (intro w hSw; (try dsimp only at hSw); go_simp; (first | done | with_reducible rfl))
  simp only [Act.put, List.setIfInBounds_toArray, List.set_cons_zero, List.set_cons_succ, List.getElem_toArray, List.getElem_cons_zero, List.getElem_cons_succ]
  refine wpAnyH_take (i := 20) (v := ?v21) rfl (by kernel_rfl) (by kernel_rfl) (by kernel_rfl) (fun _ _ _ h => h) (Or.inl ⟨by rfl, ?hy21⟩) (by assumption) ?rest21
  case hy21 => (intro w hSw; (try dsimp only at hSw); go_simp; (first | done | with_reducible rfl))
  simp only [Act.put, List.setIfInBounds_toArray, List.set_cons_zero, List.set_cons_succ, List.getElem_toArray, List.getElem_cons_zero, List.getElem_cons_succ]
  refine wpAnyH_take (i := 21) (v := ?v22) rfl (by kernel_rfl) (by kernel_rfl) (by kernel_rfl) (fun _ _ _ h => h) (Or.inl ⟨by rfl, ?hy22⟩) (by assumption) ?rest22
  case hy22 => (intro w hSw; (try dsimp only at hSw); go_simp; (first | done | with_reducible rfl))
  simp only [Act.put, List.setIfInBounds_toArray, List.set_cons_zero, List.set_cons_succ, List.getElem_toArray, List.getElem_cons_zero, List.getElem_cons_succ]
  refine wpAnyH_take (i := 22) (v := ?v23) rfl (by kernel_rfl) (by kernel_rfl) (by kernel_rfl) (fun _ _ _ h => h) (Or.inl ⟨by rfl, ?hy23⟩) (by assumption) ?rest23
  case hy23 => (intro w hSw; (try dsimp only at hSw); go_simp; (first | done | with_reducible rfl))
  simp only [Act.put, List.setIfInBounds_toArray, List.set_cons_zero, List.set_cons_succ, List.getElem_toArray, List.getElem_cons_zero, List.getElem_cons_succ]
  refine wpAnyH_take (i := 23) (v := ?v24) rfl (by kernel_rfl) (by kernel_rfl) (by kernel_rfl) (fun _ _ _ h => h) (Or.inl ⟨by rfl, ?hy24⟩) (by assumption) ?rest24
  case hy24 => (intro w hSw; (try dsimp only at hSw); go_simp; (first | done | with_reducible rfl))
  simp only [Act.put, List.setIfInBounds_toArray, List.set_cons_zero, List.set_cons_succ, List.getElem_toArray, List.getElem_cons_zero, List.getElem_cons_succ]
  refine wpAnyH_take (i := 24) (v := ?v25) rfl (by kernel_rfl) (by kernel_rfl) (by kernel_rfl) (fun _ _ _ h => h) (Or.inl ⟨by rfl, ?hy25⟩) (by assumption) ?rest25
  case hy25 => (intro w hSw; (try dsimp only at hSw); go_simp; (first | done | with_reducible rfl))
  simp only [Act.put, List.setIfInBounds_toArray, List.set_cons_zero, List.set_cons_succ, List.getElem_toArray, List.getElem_cons_zero, List.getElem_cons_succ]
  refine wpAnyH_ready (rs := [25]) (by kernel_rfl) (by simp) ?_
  refine AllReadyH.cons rfl (fun K hK => ?_) AllReadyH.nil
  simp only [List.getElem_toArray, List.getElem_cons_zero, List.getElem_cons_succ]
  go_simp
  have SS0 := HTT.out.store (.int .i64 x0) (.int .i64 (x1 - x2))
  have G0 := grown_trans (grown_set w1 w.heap.size 0 (.int .i64 x0)) (grown_set _ w.heap.size 1 (.int .i64 (x1 - x2)))
  have bd : Below ((w1.setCell ⟨w.heap.size, 0, none⟩ (.int .i64 x0)).setCell ⟨w.heap.size, 1, none⟩ (.int .i64 (x1 - x2))).heap.size ((w1.setCell ⟨w.heap.size, 0, none⟩ (.int .i64 x0)).setCell ⟨w.heap.size, 1, none⟩ (.int .i64 (x1 - x2))) ((w1.setCell ⟨w.heap.size, 0, none⟩ (.int .i64 x0)).setCell ⟨w.heap.size, 1, none⟩ (.int .i64 (x1 - x2))).drew := (Below.refl _ _).drew
  have SS := SS0.later bd
  have G := grown_trans G0 (grown_below bd (some w.heap.size))
  have BB := Lib.hid ((below_set (o := 1) (x := .int .i64 (x1 - x2)) (below_set (o := 0) (x := .int .i64 x0) B1.out (Nat.le_refl _)) (Nat.le_refl _)).drew)
  refine hK.out _ _ ⟨(cell?_far G (by omega) c0 trivial), (cell?_far G (by omega) c1 trivial), (cell?_far G (by omega) d0 trivial), (cell?_far G (by omega) d1 trivial), (cell?_far G (by omega) d2 trivial)⟩ (fun hHeld => ?_)
  clear hK K
  try simp only [Act.put, List.setIfInBounds_toArray, List.set_cons_zero, List.set_cons_succ, List.getElem_toArray, List.getElem_cons_zero, List.getElem_cons_succ]
  refine wpAnyH_done (by kernel_rfl) ?_ _
  clear hHeld c0 c1 d0 d1 d2 G G0 SS0 bd t0 t1 f0 f1
  generalize ((w1.setCell ⟨w.heap.size, 0, none⟩ (.int .i64 x0)).setCell ⟨w.heap.size, 1, none⟩ (.int .i64 (x1 - x2))).drew = W at *
  obtain ⟨y0, y1⟩ := SS.cells
  go_upto_region 4 with fail
  refine bodyPost_ret (v := .agg #[.int .i64 x0, .int .i64 (x1 - x2)]) ?_ rfl ⟨by rw [HX.out], BB.out⟩
  clear SS BB
  simp [results, Tryd.results16, y0, y1, go_sem]
set_option maxHeartbeats 1000000 in
theorem biases_in (N b : Nat) (ss : List Int) (hr : RightH ss) (k : Nat) (hk : k + 1 < ss.length) (w : World) (h : ShapeAt N b w ss) :
    Calls Tryd.prog 18 #[.pointer (some ⟨b, 0, none⟩), .int .i64 k] w fun e w' => e = .returned (.agg #[.int .i64 (bR ss k).1, .int .i64 (bR ss k).2]) ∧ Below w.heap.size w w' := by
  have h16 := hr.l16
  have r1 := st_range (k := k) hr.good (.inl (by omega))
  have r2 := st_range (k := k + 1) hr.good (.inl (by omega))
  have r3 := goodB_iff.1 (hr.good (k + 1) hk)
  have bA := (Below.refl w.heap.size w).alloc (Nat.le_refl _) (.cells #[.int .i64 0, .int .i64 0] 35)
  have hA := h.later bA
  have T := Two.new w 35 (.int .i64 0) (.int .i64 0)
  have hl := link_any N b ss (by omega) k _ hA
  rw [show (decide (0 ≤ (k : Int)) && decide ((k : Int) < ((ss.length - 1 : Nat) : Int))) = true by simp; omega] at hl
  have HA := Lib.hid hA
  have HT := Lib.hid T
  have H0 := Lib.hid h
  clear hA T h
  go_enter Tryd.func18, Tryd.ntmps18
  go_wp2_with fail
  refine hl.mono ?_
  rintro e w1 ⟨rfl, b1⟩
  have T1 := HT.out.later b1
  have HS1 := Lib.hid (HA.out.later b1)
  have hbb := bA.trans (b1.mono bA.size)
  have B1 := Lib.hid hbb
  have hsz : w.heap.size < w1.heap.size := T1.lt
  obtain ⟨h0, hb, h2, v, u, c0', c1', o0', o1'⟩ := H0.out
  obtain ⟨g1, cc1, rfl, hg1, hg2⟩ := own_some o1' (by omega)
  obtain ⟨g0, cc0, rfl, hg3, hg4⟩ := own_some o0' (by omega)
  have c0 := cell_step hbb c0'
  have c1 := cell_step hbb c1'
  have o0 := own_below o0' hbb
  have o1 := own_below o1' hbb
  clear c0' c1' o0' o1' hbb H0
  have d1 := o1.cellAt (k + 1) (by omega)
  rw [List.getElem?_map, stL_at ss _ _ (by omega)] at d1
  simp only [Option.map_some] at d1
  have HWT := Lib.hid (fun W (hb : Below w1.heap.size w1 W) => weights_in N b ss hr k hk W (HS1.out.later hb))
  clear o0 o1 HA HT hl b1 bA
  generalize hx0 : stTo ss k = x0 at *
  generalize hx1 : stTo ss (k + 1) = x1 at *
  generalize hx2 : ss[k + 1]?.getD 0 = x2 at *
  have HX : Hid (bR ss k = (x1 - x2, x1)) := Lib.hid (by unfold bR; rw [hx1, hx2])
  have HWR : Hid (wR ss k = (x0, x1 - x2)) := Lib.hid (by unfold wR; rw [hx0, hx1, hx2])
  clear hx0 hx1 hx2
  have wk : IntKind.i64.wrap ((k : Int) + 1) = ((k + 1 : Nat) : Int) := (IntWalk.i64_in _ (by omega)).trans (by omega)
  have wk2 : (k : Int) + 1 = ((k + 1 : Nat) : Int) := by omega
  have ws : IntKind.i64.wrap (x1 - x2) = x1 - x2 := IntWalk.i64_in _ (by omega)
  have i0 : (0 : Int) ≤ (k : Int) := by omega
  have i1 : (k : Int) < (ss.length : Int) := by omega
  obtain ⟨k1, hk1⟩ : ∃ k1, k1 = k + 1 := ⟨_, rfl⟩
  rw [← hk1] at wk wk2 d1
  have hkk : k1 < ss.length := by omega
  have i2 : (0 : Int) ≤ (k1 : Int) := by omega
  have i3 : (k1 : Int) < (ss.length : Int) := by omega
  have i4 : k1 < ss.length := by omega
  have i5 : k < ss.length := by omega
  have wkk : IntKind.i64.wrap (k1 : Int) = k1 := IntWalk.i64_in _ (by omega)
  clear hk1
  have HTT := Lib.hid T1
  clear T1
  go_upto_region 3 with fail
  refine wp_region_held_drew (S := fun w' => w'.cell? ⟨b, 1, none⟩ = some (.slice (some ⟨g1, 0, none⟩) ss.length cc1) ∧ w'.cell? ⟨g1, k1, none⟩ = some (.int .i64 x1)) (by kernel_rfl) ?_ (fun hHeld => ?_)
  · exact ⟨c1, d1⟩
  refine wpAnyH_take (i := 0) (v := ?v26) rfl (by kernel_rfl) (by kernel_rfl) (by kernel_rfl) (fun _ _ _ h => h) (Or.inl ⟨by rfl, ?hy26⟩) (by assumption) ?rest26
  case hy26 => (intro w hSw; (try dsimp only at hSw); go_simp; (first | done | with_reducible rfl))
  simp only [Act.put, List.setIfInBounds_toArray, List.set_cons_zero, List.set_cons_succ, List.getElem_toArray, List.getElem_cons_zero]
  refine wpAnyH_take (i := 1) (v := ?v27) rfl (by kernel_rfl) (by kernel_rfl) (by kernel_rfl) (fun _ _ _ h => h) (Or.inl ⟨by rfl, ?hy27⟩) (by assumption) ?rest27
  case hy27 => (intro w hSw; (try dsimp only at hSw); go_simp; (first | done | with_reducible rfl))
  simp only [Act.put, List.setIfInBounds_toArray, List.set_cons_zero, List.set_cons_succ, List.getElem_toArray, List.getElem_cons_zero, List.getElem_cons_succ]
  refine wpAnyH_take (i := 4) (v := ?v28) rfl (by kernel_rfl) (by kernel_rfl) (by kernel_rfl) (fun _ _ _ h => h) (Or.inl ⟨by rfl, ?hy28⟩) (by assumption) ?rest28
  case hy28 => (intro w hSw; (try dsimp only at hSw); go_simp; (first | done | with_reducible rfl))
  simp only [Act.put, List.setIfInBounds_toArray, List.set_cons_zero, List.set_cons_succ, List.getElem_toArray, List.getElem_cons_zero, List.getElem_cons_succ]
  refine wpAnyH_take (i := 5) (v := ?v29) rfl (by kernel_rfl) (by kernel_rfl) (by kernel_rfl) (fun _ _ _ h => h) (Or.inl ⟨by rfl, ?hy29⟩) (by assumption) ?rest29
  case hy29 => (intro w hSw; (try dsimp only at hSw); go_simp; (first | done | with_reducible rfl))
  simp only [Act.put, List.setIfInBounds_toArray, List.set_cons_zero, List.set_cons_succ, List.getElem_toArray, List.getElem_cons_zero, List.getElem_cons_succ]
  refine wpAnyH_take (i := 6) (v := ?v30) rfl (by kernel_rfl) (by kernel_rfl) (by kernel_rfl) (fun _ _ _ h => h) (Or.inl ⟨by rfl, ?hy30⟩) (by assumption) ?rest30
  case hy30 => (intro w hSw; (try dsimp only at hSw); go_simp; (first | done | with_reducible rfl))
  simp only [Act.put, List.setIfInBounds_toArray, List.set_cons_zero, List.set_cons_succ, List.getElem_toArray, List.getElem_cons_zero, List.getElem_cons_succ]
  refine wpAnyH_take (i := 7) (v := ?v31) rfl (by kernel_rfl) (by kernel_rfl) (by kernel_rfl) (fun _ _ _ h => h) (Or.inl ⟨by rfl, ?hy31⟩) (by assumption) ?rest31
  case hy31 => (intro w hSw; (try dsimp only at hSw); go_simp; (first | done | with_reducible rfl))
  simp only [Act.put, List.setIfInBounds_toArray, List.set_cons_zero, List.set_cons_succ, List.getElem_toArray, List.getElem_cons_zero, List.getElem_cons_succ]
  refine wpAnyH_take (i := 8) (v := ?v32) rfl (by kernel_rfl) (by kernel_rfl) (by kernel_rfl) (fun _ _ _ h => h) (Or.inl ⟨by rfl, ?hy32⟩) (by assumption) ?rest32
  case hy32 => (intro w hSw; (try dsimp only at hSw); go_simp; (first | done | with_reducible rfl))
  simp only [Act.put, List.setIfInBounds_toArray, List.set_cons_zero, List.set_cons_succ, List.getElem_toArray, List.getElem_cons_zero, List.getElem_cons_succ]
  refine wpAnyH_take (i := 9) (v := ?v33) rfl (by kernel_rfl) (by kernel_rfl) (by kernel_rfl) (fun _ _ _ h => h) (Or.inl ⟨by rfl, ?hy33⟩) (by assumption) ?rest33
  case hy33 => (intro w hSw; (try dsimp only at hSw); go_simp; (first | done | with_reducible rfl))
  simp only [Act.put, List.setIfInBounds_toArray, List.set_cons_zero, List.set_cons_succ, List.getElem_toArray, List.getElem_cons_zero, List.getElem_cons_succ]
  refine wpAnyH_take (i := 10) (v := ?v34) rfl (by kernel_rfl) (by kernel_rfl) (by kernel_rfl) (fun _ _ _ h => h) (Or.inl ⟨by rfl, ?hy34⟩) (by assumption) ?rest34
  case hy34 => (intro w hSw; (try dsimp only at hSw); go_simp; (first | done | with_reducible rfl))
  simp only [Act.put, List.setIfInBounds_toArray, List.set_cons_zero, List.set_cons_succ, List.getElem_toArray, List.getElem_cons_zero, List.getElem_cons_succ]
  refine wpAnyH_take (i := 11) (v := ?v35) rfl (by kernel_rfl) (by kernel_rfl) (by kernel_rfl) (fun _ _ _ h => h) (Or.inl ⟨by rfl, ?hy35⟩) (by assumption) ?rest35
  case hy35 => (intro w hSw; (try dsimp only at hSw); go_simp; (first | done | with_reducible rfl))
  simp only [Act.put, List.setIfInBounds_toArray, List.set_cons_zero, List.set_cons_succ, List.getElem_toArray, List.getElem_cons_zero, List.getElem_cons_succ]
  refine wpAnyH_ready (rs := [2]) (by kernel_rfl) (by simp) ?_
  refine AllReadyH.cons rfl (fun K hK => ?_) AllReadyH.nil
  simp only [List.getElem_toArray, List.getElem_cons_zero, List.getElem_cons_succ]
  go_simp
  go_at_call 16
  refine (HWT.out _ (Below.refl _ _).drew).mono ?_
  rintro e w2 ⟨rfl, b2'⟩
  rw [HWR.out]
  have b2 : Below w1.heap.size w1 w2 := (Below.refl w1.heap.size w1).drew.trans b2'
  clear b2'
  go_wp2_with fail
  refine hK.out _ _ ⟨cell_step b2 c1, cell_step b2 d1⟩ (fun hHeld => ?_)
  clear hK K
  replace c1 := cell_step b2 c1
  replace d1 := cell_step b2 d1
  replace B1 := Lib.hid (B1.out.trans (b2.mono B1.out.size))
  replace HTT := Lib.hid (HTT.out.later b2)
  obtain ⟨t0, t1⟩ := HTT.out.cells
  have f0 := HTT.out.frozen 0
  have f1 := HTT.out.frozen 1
  clear b2
  have hfd : ∀ W : World, (Instr.field 35 (.agg #[.int .i64 x0, .int .i64 (x1 - x2)]) 1).run Tryd.prog W = .ok (.int .i64 (x1 - x2)) W := fun _ => by kernel_rfl
  try simp only [Act.put, List.setIfInBounds_toArray, List.set_cons_zero, List.set_cons_succ, List.getElem_toArray, List.getElem_cons_zero, List.getElem_cons_succ]
  refine wpAnyH_take (i := 3) (v := ?v36) rfl (by kernel_rfl) (by kernel_rfl) (by kernel_rfl) (fun _ _ _ h => h) (Or.inl ⟨by rfl, ?hy36⟩) (by assumption) ?rest36
  case hy36 => (intro w hSw; (try dsimp only at hSw); go_simp; (first | done | with_reducible rfl))
  simp only [Act.put, List.setIfInBounds_toArray, List.set_cons_zero, List.set_cons_succ, List.getElem_toArray, List.getElem_cons_zero, List.getElem_cons_succ]
  refine wpAnyH_take (i := 12) (v := ?v37) rfl (by kernel_rfl) (by kernel_rfl) (by kernel_rfl) (fun _ _ _ h => h) (Or.inl ⟨by rfl, ?hy37⟩) (by assumption) ?rest37
  case hy37 => (intro w hSw; (try dsimp only at hSw); go_simp; (first | done | with_reducible rfl))
  simp only [Act.put, List.setIfInBounds_toArray, List.set_cons_zero, List.set_cons_succ, List.getElem_toArray, List.getElem_cons_zero, List.getElem_cons_succ]
  refine wpAnyH_ready (rs := [13]) (by kernel_rfl) (by simp) ?_
  refine AllReadyH.cons rfl (fun K hK => ?_) AllReadyH.nil
  simp only [List.getElem_toArray, List.getElem_cons_zero, List.getElem_cons_succ]
  go_simp
  have G := grown_trans (grown_set w2 w.heap.size 0 (.int .i64 (x1 - x2))) (grown_set _ w.heap.size 1 (.int .i64 x1))
  have SS := HTT.out.store (.int .i64 (x1 - x2)) (.int .i64 x1)
  have BB := Lib.hid (below_set (o := 1) (x := .int .i64 x1) (below_set (o := 0) (x := .int .i64 (x1 - x2)) B1.out (Nat.le_refl _)) (Nat.le_refl _))
  refine hK.out _ _ ⟨cell?_far G (by omega) c1 trivial, cell?_far G (by omega) d1 trivial⟩ (fun hHeld => ?_)
  clear hK K
  try simp only [Act.put, List.setIfInBounds_toArray, List.set_cons_zero, List.set_cons_succ, List.getElem_toArray, List.getElem_cons_zero, List.getElem_cons_succ]
  refine wpAnyH_done (by kernel_rfl) ?_ _
  clear hHeld c1 d1 G t0 t1 f0 f1
  generalize (w2.setCell ⟨w.heap.size, 0, none⟩ (.int .i64 (x1 - x2))).setCell ⟨w.heap.size, 1, none⟩ (.int .i64 x1) = W at *
  obtain ⟨y0, y1⟩ := SS.cells
  go_upto_region 4 with fail
  refine bodyPost_ret (v := .agg #[.int .i64 (x1 - x2), .int .i64 x1]) ?_ rfl ⟨by rw [HX.out], BB.out⟩
  clear SS BB
  simp [results, Tryd.results18, y0, y1, go_sem]
theorem weights_out (N b : Nat) (ss : List Int) (hm : ss.length ≤ 1048576) (k : Int) (hk : ¬ (0 ≤ k ∧ k < ((ss.length - 1 : Nat) : Int))) (w : World) (h : ShapeAt N b w ss) :
    Calls Tryd.prog 16 #[.pointer (some ⟨b, 0, none⟩), .int .i64 k] w fun e w' => e = .returned (.agg #[.int .i64 0, .int .i64 0]) ∧ Below w.heap.size w w' := by
  have bA := (Below.refl w.heap.size w).alloc (Nat.le_refl _) (.cells #[.int .i64 0, .int .i64 0] 35)
  have T := Two.new w 35 (.int .i64 0) (.int .i64 0)
  have hl := link_any N b ss hm k _ (h.later bA)
  rw [show (decide (0 ≤ k) && decide (k < ((ss.length - 1 : Nat) : Int))) = false by rw [← Bool.decide_and]; exact decide_eq_false hk] at hl
  clear h
  go_enter Tryd.func16, Tryd.ntmps16
  go_wp2_with fail
  refine hl.mono ?_
  rintro e w1 ⟨rfl, b1⟩
  have T1 := T.later b1
  have B1 := Lib.hid (bA.trans (b1.mono bA.size))
  obtain ⟨t0, t1⟩ := T1.cells
  have f0 := T1.frozen 0
  have f1 := T1.frozen 1
  clear hl b1 bA T
  go_wp2_with fail
  have SS := T1.store (.int .i64 0) (.int .i64 0)
  have BB := Lib.hid (below_set (o := 1) (x := .int .i64 0) (below_set (o := 0) (x := .int .i64 0) B1.out (Nat.le_refl _)) (Nat.le_refl _))
  generalize (w1.setCell ⟨w.heap.size, 0, none⟩ (.int .i64 0)).setCell ⟨w.heap.size, 1, none⟩ (.int .i64 0) = W at *
  obtain ⟨y0, y1⟩ := SS.cells
  refine bodyPost_ret (v := .agg #[.int .i64 0, .int .i64 0]) ?_ rfl ⟨rfl, BB.out⟩
  clear SS BB
  simp [results, Tryd.results16, y0, y1, go_sem]
theorem biases_out (N b : Nat) (ss : List Int) (hm : ss.length ≤ 1048576) (k : Int) (hk : ¬ (0 ≤ k ∧ k < ((ss.length - 1 : Nat) : Int))) (w : World) (h : ShapeAt N b w ss) :
    Calls Tryd.prog 18 #[.pointer (some ⟨b, 0, none⟩), .int .i64 k] w fun e w' => e = .returned (.agg #[.int .i64 0, .int .i64 0]) ∧ Below w.heap.size w w' := by
  have bA := (Below.refl w.heap.size w).alloc (Nat.le_refl _) (.cells #[.int .i64 0, .int .i64 0] 35)
  have T := Two.new w 35 (.int .i64 0) (.int .i64 0)
  have hl := link_any N b ss hm k _ (h.later bA)
  rw [show (decide (0 ≤ k) && decide (k < ((ss.length - 1 : Nat) : Int))) = false by rw [← Bool.decide_and]; exact decide_eq_false hk] at hl
  clear h
  go_enter Tryd.func18, Tryd.ntmps18
  go_wp2_with fail
  refine hl.mono ?_
  rintro e w1 ⟨rfl, b1⟩
  have T1 := T.later b1
  have B1 := Lib.hid (bA.trans (b1.mono bA.size))
  obtain ⟨t0, t1⟩ := T1.cells
  have f0 := T1.frozen 0
  have f1 := T1.frozen 1
  clear hl b1 bA T
  go_wp2_with fail
  have SS := T1.store (.int .i64 0) (.int .i64 0)
  have BB := Lib.hid (below_set (o := 1) (x := .int .i64 0) (below_set (o := 0) (x := .int .i64 0) B1.out (Nat.le_refl _)) (Nat.le_refl _))
  generalize (w1.setCell ⟨w.heap.size, 0, none⟩ (.int .i64 0)).setCell ⟨w.heap.size, 1, none⟩ (.int .i64 0) = W at *
  obtain ⟨y0, y1⟩ := SS.cells
  refine bodyPost_ret (v := .agg #[.int .i64 0, .int .i64 0]) ?_ rfl ⟨rfl, BB.out⟩
  clear SS BB
  simp [results, Tryd.results18, y0, y1, go_sem]
end Go.Proofs.YtdnaildhcnekfaaDoor
