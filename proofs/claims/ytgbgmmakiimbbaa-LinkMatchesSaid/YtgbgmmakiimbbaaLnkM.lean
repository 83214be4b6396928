/- Layer 18: the reference's Send where a link is full. -/
import Derived.Test.YtgbgmmakiimbbaaLnkL
namespace Go.Proofs.Ytgbgmmakiimbbaa
open Go.RowKit
set_option linter.unusedVariables false
theorem Four.set_heap {w : World} {b : Nat} {t : TypeId} {x0 x1 x2 x3 : Value} (h : Four w b t x0 x1 x2 x3) (j : Nat) (v : Value) : (w.setCell ⟨b, j, none⟩ v).heap[b]? = some (.cells (#[x0, x1, x2, x3].setIfInBounds j v) t (0, 0)) := by
  obtain ⟨hlt, hk⟩ := Array.getElem?_eq_some_iff.1 h
  show (w.heap.modify b _)[b]? = _
  rw [Array.getElem?_eq_getElem (by rw [Array.size_modify]; exact hlt), Array.getElem_modify_self, hk]
  rfl
theorem Four.store {w : World} {b : Nat} {t : TypeId} {x0 x1 x2 x3 : Value} (h : Four w b t x0 x1 x2 x3) (y0 y1 y2 y3 : Value) : Four ((((w.setCell ⟨b, 0, none⟩ y0).setCell ⟨b, 1, none⟩ y1).setCell ⟨b, 2, none⟩ y2).setCell ⟨b, 3, none⟩ y3) b t y0 y1 y2 y3 := by
  have s0 : Four _ b t y0 x1 x2 x3 := h.set_heap 0 y0
  have s1 : Four _ b t y0 y1 x2 x3 := s0.set_heap 1 y1
  have s2 : Four _ b t y0 y1 y2 x3 := s1.set_heap 2 y2
  exact s2.set_heap 3 y3
theorem below_four (w : World) (b : Nat) (y0 y1 y2 y3 : Value) : Below b w ((((w.setCell ⟨b, 0, none⟩ y0).setCell ⟨b, 1, none⟩ y1).setCell ⟨b, 2, none⟩ y2).setCell ⟨b, 3, none⟩ y3) :=
  below_set (below_set (below_set (below_set (Below.refl _ _) (Nat.le_refl _)) (Nat.le_refl _)) (Nat.le_refl _)) (Nat.le_refl _)
set_option maxHeartbeats 1000000 in
theorem refSend_full (cap : Int) (a : Option Addr) (n c rcv pk : Nat) (t : Tg) (v : Value) (hn : n ≤ 1099511627776) (hr : rcv ≤ n) (hc : cap ≤ (n : Int) - rcv) (w : World) :
    Calls Try.prog 11 #[encL cap (.slice a n c) rcv pk, encM t v] w fun e w' => e = .returned (.tuple #[encL cap (.slice a n c) rcv pk, .int .i64 11]) ∧ Below w.heap.size w w' := by
  obtain ⟨ta, tb, tc, td, te⟩ := t
  unfold encM
  have hL := Lib.hid (fun W => refLen_any cap a n c rcv pk (by omega) (by omega) W)
  unfold encL at hL ⊢
  dsimp only
  have bA := (Below.refl w.heap.size w).alloc (Nat.le_refl _) (.cells #[.int .i64 cap, .slice a n c, .int .i64 rcv, .int .i64 pk] 29)
  have bB := bA.alloc bA.size (.cells #[.int .i64 ta, .int .i64 tb, .int .i64 tc, .int .i64 td, .int .i64 te, v] 34)
  have bC := bB.alloc bB.size (.cells #[.int .i64 0, .slice none 0 0, .int .i64 0, .int .i64 0] 29)
  have hg : decide (cap ≤ (n : Int) - rcv) = true := by simpa using hc
  go_enter Try.func11, Try.ntmps11
  go_upto_region 1 with fail
  have F1 : Four (((w.alloc (.cells #[.int .i64 cap, .slice a n c, .int .i64 rcv, .int .i64 pk] 29)).alloc (.cells #[.int .i64 ta, .int .i64 tb, .int .i64 tc, .int .i64 td, .int .i64 te, v] 34)).alloc (.cells #[.int .i64 0, .slice none 0 0, .int .i64 0, .int .i64 0] 29)) w.heap.size 29 (.int .i64 cap) (.slice a n c) (.int .i64 rcv) (.int .i64 pk) :=
    ((((Below.refl _ _).alloc (Nat.le_refl _) (.cells #[.int .i64 ta, .int .i64 tb, .int .i64 tc, .int .i64 td, .int .i64 te, v] 34)).alloc (by simp) (.cells #[.int .i64 0, .slice none 0 0, .int .i64 0, .int .i64 0] 29)).block _ (by simp)).trans (Four.new w _ _ _ _ _)
  have F2 : Four (((w.alloc (.cells #[.int .i64 cap, .slice a n c, .int .i64 rcv, .int .i64 pk] 29)).alloc (.cells #[.int .i64 ta, .int .i64 tb, .int .i64 tc, .int .i64 td, .int .i64 te, v] 34)).alloc (.cells #[.int .i64 0, .slice none 0 0, .int .i64 0, .int .i64 0] 29)) (w.heap.size + 1 + 1) 29 (.int .i64 0) (.slice none 0 0) (.int .i64 0) (.int .i64 0) := by
    have := Four.new ((w.alloc (.cells #[.int .i64 cap, .slice a n c, .int .i64 rcv, .int .i64 pk] 29)).alloc (.cells #[.int .i64 ta, .int .i64 tb, .int .i64 tc, .int .i64 td, .int .i64 te, v] 34)) 29 (.int .i64 0) (.slice none 0 0) (.int .i64 0) (.int .i64 0)
    simpa using this
  clear bA bB
  generalize (((w.alloc (.cells #[.int .i64 cap, .slice a n c, .int .i64 rcv, .int .i64 pk] 29)).alloc (.cells #[.int .i64 ta, .int .i64 tb, .int .i64 tc, .int .i64 td, .int .i64 te, v] 34)).alloc (.cells #[.int .i64 0, .slice none 0 0, .int .i64 0, .int .i64 0] 29)) = W at *
  obtain ⟨c0, c1, c2, c3⟩ := F1.cells
  have hsl : w.heap.size + 1 + 1 < W.heap.size := (Array.getElem?_eq_some_iff.1 F2).1
  refine wp_region_held_drew (S := fun w' => w'.cell? ⟨w.heap.size, 0, none⟩ = some (.int .i64 cap) ∧ w'.cell? ⟨w.heap.size, 1, none⟩ = some (.slice a n c) ∧ w'.cell? ⟨w.heap.size, 2, none⟩ = some (.int .i64 rcv) ∧ w'.cell? ⟨w.heap.size, 3, none⟩ = some (.int .i64 pk) ∧ Below W.heap.size W w') (by kernel_rfl) ?_ (fun hHeld => ?_)
  · exact ⟨c0, c1, c2, c3, (Below.refl _ _).drew⟩
  refine wpAnyH_take (i := 0) (v := ?v1) rfl (by kernel_rfl) (by kernel_rfl) (by kernel_rfl) (fun _ _ _ h => h) (Or.inl ⟨by rfl, ?hy1⟩) (by assumption) ?rest1
  case hy1 => (intro w hSw; (try dsimp only at hSw); go_simp; (first | done | with_reducible rfl))
  simp only [Act.put, List.setIfInBounds_toArray, List.set_cons_zero, List.set_cons_succ, List.getElem_toArray, List.getElem_cons_zero]
  refine wpAnyH_take (i := 2) (v := ?v2) rfl (by kernel_rfl) (by kernel_rfl) (by kernel_rfl) (fun _ _ _ h => h) (Or.inl ⟨by rfl, ?hy2⟩) (by assumption) ?rest2
  case hy2 => (intro w hSw; (try dsimp only at hSw); go_simp; (first | done | with_reducible rfl))
  simp only [Act.put, List.setIfInBounds_toArray, List.set_cons_zero, List.set_cons_succ, List.getElem_toArray, List.getElem_cons_zero, List.getElem_cons_succ]
  refine wpAnyH_take (i := 3) (v := ?v3) rfl (by kernel_rfl) (by kernel_rfl) (by kernel_rfl) (fun _ _ _ h => h) (Or.inl ⟨by rfl, ?hy3⟩) (by assumption) ?rest3
  case hy3 => (intro w hSw; (try dsimp only at hSw); go_simp; (first | done | with_reducible rfl))
  simp only [Act.put, List.setIfInBounds_toArray, List.set_cons_zero, List.set_cons_succ, List.getElem_toArray, List.getElem_cons_zero, List.getElem_cons_succ]
  refine wpAnyH_ready (rs := [1]) (by kernel_rfl) (by simp) ?_
  refine AllReadyH.cons rfl (fun K hK => ?_) AllReadyH.nil
  simp only [List.getElem_toArray, List.getElem_cons_zero, List.getElem_cons_succ]
  obtain ⟨_, _, _, _, h_B⟩ := hHeld
  go_simp
  go_at_call 28
  refine (hL.out _).mono ?_
  rintro e w5 ⟨rfl, b5⟩
  have b6 : Below W.heap.size W w5 := h_B.trans (b5.mono h_B.size)
  go_wp2_with fail
  refine hK.out _ _ ⟨cell_step b6 c0, cell_step b6 c1, cell_step b6 c2, cell_step b6 c3, b6⟩ (fun hHeld => ?_)
  clear hK K b5 h_B
  try simp only [Act.put, List.setIfInBounds_toArray, List.set_cons_zero, List.set_cons_succ, List.getElem_toArray, List.getElem_cons_zero, List.getElem_cons_succ]
  refine wpAnyH_take (i := 4) (v := ?v4) rfl (by kernel_rfl) (by kernel_rfl) (by kernel_rfl) (fun _ _ _ h => h) (Or.inl ⟨by rfl, ?hy4⟩) (by assumption) ?rest4
  case hy4 => (intro w hSw; (try dsimp only at hSw); go_simp; (first | done | with_reducible rfl))
  simp only [Act.put, List.setIfInBounds_toArray, List.set_cons_zero, List.set_cons_succ, List.getElem_toArray, List.getElem_cons_zero, List.getElem_cons_succ]
  refine wpAnyH_done (by kernel_rfl) ?_ _
  have G1 : Four w5 w.heap.size _ _ _ _ _ := (b6.block _ (by omega)).trans F1
  have G2 : Four w5 (w.heap.size + 1 + 1) _ _ _ _ _ := (b6.block _ hsl).trans F2
  have B5 := Lib.hid (bC.trans (b6.mono bC.size))
  clear hHeld b6 c0 c1 c2 c3 F1 F2 bC
  obtain ⟨c0, c1, c2, c3⟩ := G1.cells
  obtain ⟨d0, d1, d2, d3⟩ := G2.cells
  have f (j : Nat) : w5.frozen? ⟨w.heap.size + 1 + 1, j, none⟩ = false := by simp [World.frozen?, show w5.heap[w.heap.size + 1 + 1]? = _ from G2]
  have f0 := f 0
  have f1 := f 1
  have f2 := f 2
  have f3 := f 3
  clear f
  go_wp2_with fail
  have SS := G2.store (.int .i64 cap) (.slice a n c) (.int .i64 rcv) (.int .i64 pk)
  have BB := (below_four w5 (w.heap.size + 1 + 1) (.int .i64 cap) (.slice a n c) (.int .i64 rcv) (.int .i64 pk)).mono (show w.heap.size ≤ w.heap.size + 1 + 1 by omega)
  generalize (((w5.setCell ⟨w.heap.size + 1 + 1, 0, none⟩ (.int .i64 cap)).setCell ⟨w.heap.size + 1 + 1, 1, none⟩ (.slice a n c)).setCell ⟨w.heap.size + 1 + 1, 2, none⟩ (.int .i64 rcv)).setCell ⟨w.heap.size + 1 + 1, 3, none⟩ (.int .i64 pk) = W9 at *
  obtain ⟨x0, x1, x2, x3⟩ := SS.cells
  refine bodyPost_ret (v := .tuple #[.agg #[.int .i64 cap, .slice a n c, .int .i64 rcv, .int .i64 pk], .int .i64 11]) ?_ rfl ⟨rfl, B5.out.trans BB⟩
  clear BB SS B5
  simp [results, Try.results11, x0, x1, x2, x3, go_sem]
end Go.Proofs.Ytgbgmmakiimbbaa
