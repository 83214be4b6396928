/- Layer 18: Receive where nothing is received. -/
import Derived.Test.YtgbgmmakiimbbaaLnkE
namespace Go.Proofs.Ytgbgmmakiimbbaa
open Go.RowKit
set_option linter.unusedVariables false
theorem recv_nil (t : Tg) (w : World) : Calls Try.prog 14 #[.pointer none, encT t] w fun e w' => e = .returned (.tuple #[.agg #[.int .i64 0, .int .i64 0, .int .i64 0, .int .i64 0, .int .i64 0, .slice none 0 0], .int .i64 1]) ∧ Below w.heap.size w w' := by
  obtain ⟨ta, tb, tc, td, te⟩ := t
  unfold encT
  dsimp only
  have bA := (Below.refl w.heap.size w).alloc (Nat.le_refl _) (.cells #[.int .i64 ta, .int .i64 tb, .int .i64 tc, .int .i64 td, .int .i64 te] 31)
  have bB := bA.alloc bA.size (.cells #[.int .i64 0, .int .i64 0, .int .i64 0, .int .i64 0, .int .i64 0, .slice none 0 0] 34)
  have f0 := (Five.new w 31 (.int .i64 ta) (.int .i64 tb) (.int .i64 tc) (.int .i64 td) (.int .i64 te)).later ((Below.refl _ _).alloc (Nat.le_refl _) (.cells #[.int .i64 0, .int .i64 0, .int .i64 0, .int .i64 0, .int .i64 0, .slice none 0 0] 34))
  have s0 := Six.new (w.alloc (.cells #[.int .i64 ta, .int .i64 tb, .int .i64 tc, .int .i64 td, .int .i64 te] 31)) 34 (.int .i64 0) (.int .i64 0) (.int .i64 0) (.int .i64 0) (.int .i64 0) (.slice none 0 0)
  rw [World.size_alloc] at s0
  have hsz : ((w.alloc (.cells #[.int .i64 ta, .int .i64 tb, .int .i64 tc, .int .i64 td, .int .i64 te] 31)).alloc (.cells #[.int .i64 0, .int .i64 0, .int .i64 0, .int .i64 0, .int .i64 0, .slice none 0 0] 34)).heap.size = w.heap.size + 2 := by simp
  have s9 := s0
  have B9 := bB
  clear f0 bA bB s0
  obtain ⟨⟨d0, d1, d2⟩, d3, d4, d5⟩ := s9.cells
  have fr0 := s9.frozen 0
  have fr1 := s9.frozen 1
  have fr2 := s9.frozen 2
  have fr3 := s9.frozen 3
  have fr4 := s9.frozen 4
  have fr5 := s9.frozen 5
  go_enter Try.func14, Try.ntmps14
  go_wp2_with fail
  generalize (w.alloc (.cells #[.int .i64 ta, .int .i64 tb, .int .i64 tc, .int .i64 td, .int .i64 te] 31)).alloc (.cells #[.int .i64 0, .int .i64 0, .int .i64 0, .int .i64 0, .int .i64 0, .slice none 0 0] 34) = W8 at *
  refine bodyPost_ret (v := .tuple #[.agg #[.int .i64 0, .int .i64 0, .int .i64 0, .int .i64 0, .int .i64 0, .slice none 0 0], .int .i64 1]) ?_ rfl ⟨rfl, B9⟩
  clear B9
  simp [results, Try.results14, d0, d1, d2, d3, d4, d5, go_sem]
set_option maxHeartbeats 1000000 in
theorem recv_empty {B : Nat} (b cap rcv hi : Nat) (t : Tg) (w : World) (h : LinkAt b B cap [] rcv hi w) (hk : LinkOk cap [] rcv hi) :
    Calls Try.prog 14 #[.pointer (some ⟨b, 0, none⟩), encT t] w fun e w' => e = .returned (.tuple #[.agg #[.int .i64 0, .int .i64 0, .int .i64 0, .int .i64 0, .int .i64 0, .slice none 0 0], .int .i64 12]) ∧ Below w.heap.size w w' := by
  obtain ⟨ta, tb, tc, td, te⟩ := t
  unfold encT
  dsimp only
  have bA := (Below.refl w.heap.size w).alloc (Nat.le_refl _) (.cells #[.int .i64 ta, .int .i64 tb, .int .i64 tc, .int .i64 td, .int .i64 te] 31)
  have bB := bA.alloc bA.size (.cells #[.int .i64 0, .int .i64 0, .int .i64 0, .int .i64 0, .int .i64 0, .slice none 0 0] 34)
  have f0 := (Five.new w 31 (.int .i64 ta) (.int .i64 tb) (.int .i64 tc) (.int .i64 td) (.int .i64 te)).later ((Below.refl _ _).alloc (Nat.le_refl _) (.cells #[.int .i64 0, .int .i64 0, .int .i64 0, .int .i64 0, .int .i64 0, .slice none 0 0] 34))
  have s0 := Six.new (w.alloc (.cells #[.int .i64 ta, .int .i64 tb, .int .i64 tc, .int .i64 td, .int .i64 te] 31)) 34 (.int .i64 0) (.int .i64 0) (.int .i64 0) (.int .i64 0) (.int .i64 0) (.slice none 0 0)
  rw [World.size_alloc] at s0
  have hsz : ((w.alloc (.cells #[.int .i64 ta, .int .i64 tb, .int .i64 tc, .int .i64 td, .int .i64 te] 31)).alloc (.cells #[.int .i64 0, .int .i64 0, .int .i64 0, .int .i64 0, .int .i64 0, .slice none 0 0] 34)).heap.size = w.heap.size + 2 := by simp
  have hA := h.later bB
  go_enter Try.func14, Try.ntmps14
  go_wp2_with fail
  generalize (w.alloc (.cells #[.int .i64 ta, .int .i64 tb, .int .i64 tc, .int .i64 td, .int .i64 te] 31)).alloc (.cells #[.int .i64 0, .int .i64 0, .int .i64 0, .int .i64 0, .int .i64 0, .slice none 0 0] 34) = W0 at *
  refine (peek_any b cap rcv hi _ W0 hA hk).mono ?_
  rintro e w1 ⟨rfl, b1⟩
  unfold encT headT someB
  have b2 := (Below.refl w1.heap.size w1).alloc (Nat.le_refl _) (.cells #[.int .i64 0, .int .i64 0, .int .i64 0, .int .i64 0, .int .i64 0] 31)
  have f2 := (f0.later b1).later b2
  have g2 := Five.new w1 31 (.int .i64 0) (.int .i64 0) (.int .i64 0) (.int .i64 0) (.int .i64 0)
  have s9 := (s0.later b1).later b2
  have B9 := (bB.trans (b1.mono bB.size)).trans (b2.mono (Nat.le_trans bB.size b1.size))
  obtain ⟨d0, d1, d2, d3, d4⟩ := f2.cells
  obtain ⟨k0, k1, k2, k3, k4⟩ := g2.cells
  clear b1 bA bB f0 s0 hA f2 g2 b2 h
  obtain ⟨⟨p0, p1, p2⟩, p3, p4, p5⟩ := s9.cells
  have fr0 := s9.frozen 0
  have fr1 := s9.frozen 1
  have fr2 := s9.frozen 2
  have fr3 := s9.frozen 3
  have fr4 := s9.frozen 4
  have fr5 := s9.frozen 5
  dsimp only [List.isEmpty_nil, Bool.not_true]
  go_wp2_with fail
  generalize w1.alloc (.cells #[.int .i64 0, .int .i64 0, .int .i64 0, .int .i64 0, .int .i64 0] 31) = W8 at *
  have SS := s9.store (.int .i64 0) (.int .i64 0) (.int .i64 0) (.int .i64 0) (.int .i64 0) (.slice none 0 0)
  have BB := (below_six W8 (w.heap.size + 1) (.int .i64 0) (.int .i64 0) (.int .i64 0) (.int .i64 0) (.int .i64 0) (.slice none 0 0)).mono (show w.heap.size ≤ w.heap.size + 1 by omega)
  generalize ((((((W8.setCell ⟨w.heap.size + 1, 0, none⟩ (.int .i64 0)).setCell ⟨w.heap.size + 1, 1, none⟩ (.int .i64 0)).setCell ⟨w.heap.size + 1, 2, none⟩ (.int .i64 0)).setCell ⟨w.heap.size + 1, 3, none⟩ (.int .i64 0)).setCell ⟨w.heap.size + 1, 4, none⟩ (.int .i64 0)).setCell ⟨w.heap.size + 1, 5, none⟩ (.slice none 0 0)) = W9 at *
  obtain ⟨⟨x0, x1, x2⟩, x3, x4, x5⟩ := SS.cells
  refine bodyPost_ret (v := .tuple #[.agg #[.int .i64 0, .int .i64 0, .int .i64 0, .int .i64 0, .int .i64 0, .slice none 0 0], .int .i64 12]) ?_ rfl ⟨rfl, B9.trans BB⟩
  clear BB SS B9
  simp [results, Try.results14, x0, x1, x2, x3, x4, x5, go_sem]
set_option maxHeartbeats 1000000 in
theorem recv_tag {B : Nat} (b cap rcv hi : Nat) (m : Ms) (q : List Ms) (t : Tg) (ht : m.t ≠ t) (w : World) (h : LinkAt b B cap (m :: q) rcv hi w) (hk : LinkOk cap (m :: q) rcv hi) :
    Calls Try.prog 14 #[.pointer (some ⟨b, 0, none⟩), encT t] w fun e w' => e = .returned (.tuple #[.agg #[.int .i64 0, .int .i64 0, .int .i64 0, .int .i64 0, .int .i64 0, .slice none 0 0], .int .i64 10]) ∧ Below w.heap.size w w' := by
  obtain ⟨⟨ma, mb, mc, md, me⟩, zs⟩ := m
  obtain ⟨ta, tb, tc, td, te⟩ := t
  unfold encT
  dsimp only
  have bA := (Below.refl w.heap.size w).alloc (Nat.le_refl _) (.cells #[.int .i64 ta, .int .i64 tb, .int .i64 tc, .int .i64 td, .int .i64 te] 31)
  have bB := bA.alloc bA.size (.cells #[.int .i64 0, .int .i64 0, .int .i64 0, .int .i64 0, .int .i64 0, .slice none 0 0] 34)
  have f0 := (Five.new w 31 (.int .i64 ta) (.int .i64 tb) (.int .i64 tc) (.int .i64 td) (.int .i64 te)).later ((Below.refl _ _).alloc (Nat.le_refl _) (.cells #[.int .i64 0, .int .i64 0, .int .i64 0, .int .i64 0, .int .i64 0, .slice none 0 0] 34))
  have s0 := Six.new (w.alloc (.cells #[.int .i64 ta, .int .i64 tb, .int .i64 tc, .int .i64 td, .int .i64 te] 31)) 34 (.int .i64 0) (.int .i64 0) (.int .i64 0) (.int .i64 0) (.int .i64 0) (.slice none 0 0)
  rw [World.size_alloc] at s0
  have hsz : ((w.alloc (.cells #[.int .i64 ta, .int .i64 tb, .int .i64 tc, .int .i64 td, .int .i64 te] 31)).alloc (.cells #[.int .i64 0, .int .i64 0, .int .i64 0, .int .i64 0, .int .i64 0, .slice none 0 0] 34)).heap.size = w.heap.size + 2 := by simp
  have hA := h.later bB
  go_enter Try.func14, Try.ntmps14
  go_wp2_with fail
  generalize (w.alloc (.cells #[.int .i64 ta, .int .i64 tb, .int .i64 tc, .int .i64 td, .int .i64 te] 31)).alloc (.cells #[.int .i64 0, .int .i64 0, .int .i64 0, .int .i64 0, .int .i64 0, .slice none 0 0] 34) = W0 at *
  refine (peek_any b cap rcv hi _ W0 hA hk).mono ?_
  rintro e w1 ⟨rfl, b1⟩
  unfold encT headT someB
  dsimp only
  have b2 := (Below.refl w1.heap.size w1).alloc (Nat.le_refl _) (.cells #[.int .i64 ma, .int .i64 mb, .int .i64 mc, .int .i64 md, .int .i64 me] 31)
  have f2 := (f0.later b1).later b2
  have g2 := Five.new w1 31 (.int .i64 ma) (.int .i64 mb) (.int .i64 mc) (.int .i64 md) (.int .i64 me)
  have s9 := (s0.later b1).later b2
  have B9 := (bB.trans (b1.mono bB.size)).trans (b2.mono (Nat.le_trans bB.size b1.size))
  obtain ⟨d0, d1, d2, d3, d4⟩ := f2.cells
  obtain ⟨k0, k1, k2, k3, k4⟩ := g2.cells
  clear b1 bA bB f0 s0 hA f2 g2 b2 h
  obtain ⟨⟨p0, p1, p2⟩, p3, p4, p5⟩ := s9.cells
  have fr0 := s9.frozen 0
  have fr1 := s9.frozen 1
  have fr2 := s9.frozen 2
  have fr3 := s9.frozen 3
  have fr4 := s9.frozen 4
  have fr5 := s9.frozen 5
  have hne : (tagXs ma mb mc md me == tagXs ta tb tc td te) = false := by
    apply Bool.eq_false_iff.2
    intro hb
    exact ht (tagB_true.1 hb)
  have hnq : ∀ W : World, (binOp .neq 31 (.agg #[.int .i64 ma, .int .i64 mb, .int .i64 mc, .int .i64 md, .int .i64 me]) (.agg #[.int .i64 ta, .int .i64 tb, .int .i64 tc, .int .i64 td, .int .i64 te])).run Try.prog W = .ok (.bool true) W := by
    intro W
    rw [neq_tag, hne]
    rfl
  dsimp only [List.isEmpty_cons, Bool.not_false]
  go_wp2_with fail
  generalize w1.alloc (.cells #[.int .i64 ma, .int .i64 mb, .int .i64 mc, .int .i64 md, .int .i64 me] 31) = W8 at *
  have SS := s9.store (.int .i64 0) (.int .i64 0) (.int .i64 0) (.int .i64 0) (.int .i64 0) (.slice none 0 0)
  have BB := (below_six W8 (w.heap.size + 1) (.int .i64 0) (.int .i64 0) (.int .i64 0) (.int .i64 0) (.int .i64 0) (.slice none 0 0)).mono (show w.heap.size ≤ w.heap.size + 1 by omega)
  generalize ((((((W8.setCell ⟨w.heap.size + 1, 0, none⟩ (.int .i64 0)).setCell ⟨w.heap.size + 1, 1, none⟩ (.int .i64 0)).setCell ⟨w.heap.size + 1, 2, none⟩ (.int .i64 0)).setCell ⟨w.heap.size + 1, 3, none⟩ (.int .i64 0)).setCell ⟨w.heap.size + 1, 4, none⟩ (.int .i64 0)).setCell ⟨w.heap.size + 1, 5, none⟩ (.slice none 0 0)) = W9 at *
  obtain ⟨⟨x0, x1, x2⟩, x3, x4, x5⟩ := SS.cells
  refine bodyPost_ret (v := .tuple #[.agg #[.int .i64 0, .int .i64 0, .int .i64 0, .int .i64 0, .int .i64 0, .slice none 0 0], .int .i64 10]) ?_ rfl ⟨rfl, B9.trans BB⟩
  clear BB SS B9
  simp [results, Try.results14, x0, x1, x2, x3, x4, x5, go_sem]
end Go.Proofs.Ytgbgmmakiimbbaa
