/- Layer 18: the reference's Receive. -/
import Derived.Test.YtgbgmmakiimbbaaLnkO
namespace Go.Proofs.Ytgbgmmakiimbbaa
open Go.RowKit
set_option linter.unusedVariables false
theorem grown_four (w : World) (b : Nat) (y0 y1 y2 y3 : Value) : w.grownBy ((((w.setCell ⟨b, 0, none⟩ y0).setCell ⟨b, 1, none⟩ y1).setCell ⟨b, 2, none⟩ y2).setCell ⟨b, 3, none⟩ y3) (some b) :=
  grown_trans (grown_trans (grown_trans (grown_set _ _ _ _) (grown_set _ _ _ _)) (grown_set _ _ _ _)) (grown_set _ _ _ _)
/-- the four boxes of the reference's Receive -/
theorem recv_boxes (w : World) (x0 x1 x2 x3 a b c d e_ : Value) :
    ∃ W, W = (((w.alloc (.cells #[x0, x1, x2, x3] 29)).alloc (.cells #[a, b, c, d, e_] 31)).alloc (.cells #[.int .i64 0, .slice none 0 0, .int .i64 0, .int .i64 0] 29)).alloc (.cells #[.int .i64 0, .int .i64 0, .int .i64 0, .int .i64 0, .int .i64 0, .slice none 0 0] 34) ∧
      Four W w.heap.size 29 x0 x1 x2 x3 ∧ Five W (w.heap.size + 1) 31 a b c d e_ ∧ Four W (w.heap.size + 1 + 1) 29 (.int .i64 0) (.slice none 0 0) (.int .i64 0) (.int .i64 0) ∧ Six W (w.heap.size + 1 + 1 + 1) 34 (.int .i64 0) (.int .i64 0) (.int .i64 0) (.int .i64 0) (.int .i64 0) (.slice none 0 0) ∧ Below w.heap.size w W := by
  refine ⟨_, rfl, ?_, ?_, ?_, ?_, ?_⟩
  · exact (((Four.new w 29 x0 x1 x2 x3).later ((Below.refl _ _).alloc (Nat.le_refl _) _)).later ((Below.refl _ _).alloc (Nat.le_refl _) _)).later ((Below.refl _ _).alloc (Nat.le_refl _) _)
  · have := ((Five.new (w.alloc (.cells #[x0, x1, x2, x3] 29)) 31 a b c d e_).later ((Below.refl _ _).alloc (Nat.le_refl _) (.cells #[.int .i64 0, .slice none 0 0, .int .i64 0, .int .i64 0] 29))).later ((Below.refl _ _).alloc (Nat.le_refl _) (.cells #[.int .i64 0, .int .i64 0, .int .i64 0, .int .i64 0, .int .i64 0, .slice none 0 0] 34))
    rw [World.size_alloc] at this
    exact this
  · have := (Four.new ((w.alloc (.cells #[x0, x1, x2, x3] 29)).alloc (.cells #[a, b, c, d, e_] 31)) 29 (.int .i64 0) (.slice none 0 0) (.int .i64 0) (.int .i64 0)).later ((Below.refl _ _).alloc (Nat.le_refl _) (.cells #[.int .i64 0, .int .i64 0, .int .i64 0, .int .i64 0, .int .i64 0, .slice none 0 0] 34))
    rw [World.size_alloc, World.size_alloc] at this
    exact this
  · have := Six.new (((w.alloc (.cells #[x0, x1, x2, x3] 29)).alloc (.cells #[a, b, c, d, e_] 31)).alloc (.cells #[.int .i64 0, .slice none 0 0, .int .i64 0, .int .i64 0] 29)) 34 (.int .i64 0) (.int .i64 0) (.int .i64 0) (.int .i64 0) (.int .i64 0) (.slice none 0 0)
    rw [World.size_alloc, World.size_alloc, World.size_alloc] at this
    exact this
  · exact ((((Below.refl _ _).alloc (Nat.le_refl _) _).alloc (by simp) _).alloc (by simp; omega) _).alloc (by simp; omega) _
set_option maxHeartbeats 1000000 in
theorem refRecv_empty (cap : Int) (a : Option Addr) (n c pk : Nat) (t : Tg) (hn : n ≤ 1099511627776) (w : World) :
    Calls Try.prog 15 #[encL cap (.slice a n c) n pk, encT t] w fun e w' => e = .returned (.tuple #[encL cap (.slice a n c) n pk, .agg #[.int .i64 0, .int .i64 0, .int .i64 0, .int .i64 0, .int .i64 0, .slice none 0 0], .int .i64 12]) ∧ Below w.heap.size w w' := by
  obtain ⟨ta, tb, tc, td, te⟩ := t
  have hL := Lib.hid (fun W => refLen_any cap a n c n pk (by omega) (by omega) W)
  rw [Int.sub_self] at hL
  unfold encL at hL ⊢
  unfold encT
  dsimp only
  obtain ⟨W, hW, F1, T1, F2, S2, bW⟩ := recv_boxes w (.int .i64 cap) (.slice a n c) (.int .i64 n) (.int .i64 pk) (.int .i64 ta) (.int .i64 tb) (.int .i64 tc) (.int .i64 td) (.int .i64 te)
  go_enter Try.func15, Try.ntmps15
  go_upto_region 1 with fail
  rw [← hW]
  clear hW
  obtain ⟨c0, c1, c2, c3⟩ := F1.cells
  go_wp2_with fail
  refine (hL.out _).mono ?_
  rintro e w1 ⟨rfl, b1⟩
  replace F1 := F1.later b1
  replace F2 := F2.later b1
  replace S2 := S2.later b1
  have B := Lib.hid (bW.trans (b1.mono bW.size))
  clear b1 T1 c0 c1 c2 c3 hL bW
  obtain ⟨c0, c1, c2, c3⟩ := F1.cells
  have f0 := F2.frozen 0
  have f1 := F2.frozen 1
  have f2 := F2.frozen 2
  have f3 := F2.frozen 3
  have g0 := S2.frozen 0
  have g1 := S2.frozen 1
  have g2 := S2.frozen 2
  have g3 := S2.frozen 3
  have g4 := S2.frozen 4
  have g5 := S2.frozen 5
  obtain ⟨p0, p1, p2, p3⟩ := F2.cells
  obtain ⟨⟨q0, q1, q2⟩, q3, q4, q5⟩ := S2.cells
  clear F1
  go_wp2_with fail
  have A1 := F2.store (.int .i64 cap) (.slice a n c) (.int .i64 n) (.int .i64 pk)
  have A2 := S2.kept (grown_four w1 (w.heap.size + 1 + 1) (.int .i64 cap) (.slice a n c) (.int .i64 n) (.int .i64 pk)) (fun e => by have := Option.some.inj e; omega)
  have A3 := A2.store (.int .i64 0) (.int .i64 0) (.int .i64 0) (.int .i64 0) (.int .i64 0) (.slice none 0 0)
  have A4 := A1.kept (grown_six ((((w1.setCell ⟨w.heap.size + 1 + 1, 0, none⟩ (.int .i64 cap)).setCell ⟨w.heap.size + 1 + 1, 1, none⟩ (.slice a n c)).setCell ⟨w.heap.size + 1 + 1, 2, none⟩ (.int .i64 n)).setCell ⟨w.heap.size + 1 + 1, 3, none⟩ (.int .i64 pk)) (w.heap.size + 1 + 1 + 1) (.int .i64 0) (.int .i64 0) (.int .i64 0) (.int .i64 0) (.int .i64 0) (.slice none 0 0)) (fun e => by have := Option.some.inj e; omega)
  have A5 := B.out.trans (((below_four w1 (w.heap.size + 1 + 1) (.int .i64 cap) (.slice a n c) (.int .i64 n) (.int .i64 pk)).mono (show w.heap.size ≤ w.heap.size + 1 + 1 by omega)).trans ((below_six ((((w1.setCell ⟨w.heap.size + 1 + 1, 0, none⟩ (.int .i64 cap)).setCell ⟨w.heap.size + 1 + 1, 1, none⟩ (.slice a n c)).setCell ⟨w.heap.size + 1 + 1, 2, none⟩ (.int .i64 n)).setCell ⟨w.heap.size + 1 + 1, 3, none⟩ (.int .i64 pk)) (w.heap.size + 1 + 1 + 1) (.int .i64 0) (.int .i64 0) (.int .i64 0) (.int .i64 0) (.int .i64 0) (.slice none 0 0)).mono (show w.heap.size ≤ w.heap.size + 1 + 1 + 1 by omega)))
  have A6 := (below_four w1 (w.heap.size + 1 + 1) (.int .i64 cap) (.slice a n c) (.int .i64 n) (.int .i64 pk)).mono (show w.heap.size + 1 + 1 ≤ w.heap.size + 1 + 1 by omega) |>.trans ((below_six ((((w1.setCell ⟨w.heap.size + 1 + 1, 0, none⟩ (.int .i64 cap)).setCell ⟨w.heap.size + 1 + 1, 1, none⟩ (.slice a n c)).setCell ⟨w.heap.size + 1 + 1, 2, none⟩ (.int .i64 n)).setCell ⟨w.heap.size + 1 + 1, 3, none⟩ (.int .i64 pk)) (w.heap.size + 1 + 1 + 1) (.int .i64 0) (.int .i64 0) (.int .i64 0) (.int .i64 0) (.int .i64 0) (.slice none 0 0)).mono (show w.heap.size + 1 + 1 ≤ w.heap.size + 1 + 1 + 1 by omega))
  clear A1 A2 F2 S2 B
  generalize ((((((((((w1.setCell ⟨w.heap.size + 1 + 1, 0, none⟩ (.int .i64 cap)).setCell ⟨w.heap.size + 1 + 1, 1, none⟩ (.slice a n c)).setCell ⟨w.heap.size + 1 + 1, 2, none⟩ (.int .i64 n)).setCell ⟨w.heap.size + 1 + 1, 3, none⟩ (.int .i64 pk)).setCell ⟨w.heap.size + 1 + 1 + 1, 0, none⟩ (.int .i64 0)).setCell ⟨w.heap.size + 1 + 1 + 1, 1, none⟩ (.int .i64 0)).setCell ⟨w.heap.size + 1 + 1 + 1, 2, none⟩ (.int .i64 0)).setCell ⟨w.heap.size + 1 + 1 + 1, 3, none⟩ (.int .i64 0)).setCell ⟨w.heap.size + 1 + 1 + 1, 4, none⟩ (.int .i64 0)).setCell ⟨w.heap.size + 1 + 1 + 1, 5, none⟩ (.slice none 0 0)) = WZ at *
  obtain ⟨x0, x1, x2, x3⟩ := A4.cells
  obtain ⟨⟨y0, y1, y2⟩, y3, y4, y5⟩ := A3.cells
  refine bodyPost_ret (v := .tuple #[.agg #[.int .i64 cap, .slice a n c, .int .i64 n, .int .i64 pk], .agg #[.int .i64 0, .int .i64 0, .int .i64 0, .int .i64 0, .int .i64 0, .slice none 0 0], .int .i64 12]) ?_ rfl ⟨rfl, A5⟩
  clear A3 A4 A5 A6
  simp [results, Try.results15, x0, x1, x2, x3, y0, y1, y2, y3, y4, y5, go_sem]
set_option maxRecDepth 8000 in
set_option maxHeartbeats 2000000 in
theorem refRecv_tag (cap : Int) (sv : Value) (ms : List Ms) (rcv pk : Nat) (m : Ms) (t : Tg) (ht : m.t ≠ t) (hn : ms.length ≤ 1099511627776) (hm : ms[rcv]? = some m) (w : World) (h : MsgsR w sv ms) :
    Calls Try.prog 15 #[encL cap sv rcv pk, encT t] w fun e w' => e = .returned (.tuple #[encL cap sv rcv pk, .agg #[.int .i64 0, .int .i64 0, .int .i64 0, .int .i64 0, .int .i64 0, .slice none 0 0], .int .i64 10]) ∧ Below w.heap.size w w' := by
  have hlt : rcv < ms.length := by
    apply Nat.lt_of_not_le; intro hge
    rw [List.getElem?_eq_none hge] at hm; cases hm
  rcases h with ⟨_, h0⟩ | ⟨g, off, cp, rfl, hcp, hc⟩
  · rw [h0] at hlt; simp at hlt
  obtain ⟨u, ⟨d0, d1, d2, d3, d4, d5⟩, hu⟩ := hc rcv m hm
  obtain ⟨ua, uc, rfl⟩ := hu.value
  have HU := Lib.hid hu
  clear hu hc hm
  have hL := Lib.hid (fun W => refLen_any cap (some ⟨g, off, none⟩) ms.length cp rcv pk (by omega) (by omega) W)
  unfold encL at hL ⊢
  obtain ⟨⟨ma, mb, mc, md, me⟩, zs⟩ := m
  dsimp only at d0 d1 d2 d3 d4 d5
  obtain ⟨ta, tb, tc, td, te⟩ := t
  have hne : (tagXs ma mb mc md me == tagXs ta tb tc td te) = false := by
    apply Bool.eq_false_iff.2
    intro hb
    exact ht (tagB_true.1 hb)
  unfold encT
  dsimp only
  obtain ⟨W, hW, F1, T1, F2, S2, bW⟩ := recv_boxes w (.int .i64 cap) (.slice (some ⟨g, off, none⟩) ms.length cp) (.int .i64 rcv) (.int .i64 pk) (.int .i64 ta) (.int .i64 tb) (.int .i64 tc) (.int .i64 td) (.int .i64 te)
  have he : ((ms.length : Int) - (rcv : Int) == 0) = false := by simp; omega
  have he2 : ¬ ((ms.length : Int) - (rcv : Int) = 0) := by omega
  have i0 : (0 : Int) ≤ (rcv : Int) := by omega
  have i1 : (rcv : Int) < (ms.length : Int) := by omega
  go_enter Try.func15, Try.ntmps15
  go_upto_region 1 with fail
  rw [← hW]
  clear hW
  obtain ⟨c0, c1, c2, c3⟩ := F1.cells
  go_wp2_with fail
  refine (hL.out _).mono ?_
  rintro e w1 ⟨rfl, b1⟩
  replace F1 := F1.later b1
  replace F2 := F2.later b1
  replace S2 := S2.later b1
  replace T1 := T1.later b1
  have bV := bW.trans (b1.mono bW.size)
  have B1 := Lib.hid bV
  clear b1 c0 c1 c2 c3 hL bW
  replace d0 := cell_step bV d0
  replace d1 := cell_step bV d1
  replace d2 := cell_step bV d2
  replace d3 := cell_step bV d3
  replace d4 := cell_step bV d4
  replace d5 := cell_step bV d5
  clear bV
  obtain ⟨c0, c1, c2, c3⟩ := F1.cells
  go_upto_region 4 with fail
  have b2 : Below w1.heap.size w1 (w1.alloc (.cells #[.int .i64 ma, .int .i64 mb, .int .i64 mc, .int .i64 md, .int .i64 me, .slice ua zs.length uc] 34)) := (Below.refl _ _).alloc (Nat.le_refl _) _
  have hs1 := S2.lt
  have S4 := Six.new w1 34 (.int .i64 ma) (.int .i64 mb) (.int .i64 mc) (.int .i64 md) (.int .i64 me) (.slice ua zs.length uc)
  replace F1 := F1.later b2
  replace F2 := F2.later b2
  replace S2 := S2.later b2
  replace T1 := T1.later b2
  have B := Lib.hid (B1.out.trans (b2.mono B1.out.size))
  clear B1 b2 d0 d1 d2 d3 d4 d5 c0 c1 c2 c3
  generalize w1.alloc (.cells #[.int .i64 ma, .int .i64 mb, .int .i64 mc, .int .i64 md, .int .i64 me, .slice ua zs.length uc] 34) = w2 at *
  have hnq : ∀ W : World, (binOp .neq 31 (.agg #[.int .i64 ma, .int .i64 mb, .int .i64 mc, .int .i64 md, .int .i64 me]) (.agg #[.int .i64 ta, .int .i64 tb, .int .i64 tc, .int .i64 td, .int .i64 te])).run Try.prog W = .ok (.bool true) W := by
    intro W
    rw [neq_tag, hne]
    rfl
  obtain ⟨c0, c1, c2, c3⟩ := F1.cells
  obtain ⟨t0, t1, t2, t3, t4⟩ := T1.cells
  obtain ⟨⟨s0, s1, s2⟩, s3, s4, s5⟩ := S4.cells
  have f0 := F2.frozen 0
  have f1 := F2.frozen 1
  have f2 := F2.frozen 2
  have f3 := F2.frozen 3
  have g0 := S2.frozen 0
  have g1 := S2.frozen 1
  have g2 := S2.frozen 2
  have g3 := S2.frozen 3
  have g4 := S2.frozen 4
  have g5 := S2.frozen 5
  obtain ⟨p0, p1, p2, p3⟩ := F2.cells
  obtain ⟨⟨q0, q1, q2⟩, q3, q4, q5⟩ := S2.cells
  clear F1 T1 S4
  go_wp2_with fail
  have A1 := F2.store (.int .i64 cap) (.slice (some ⟨g, off, none⟩) ms.length cp) (.int .i64 rcv) (.int .i64 pk)
  have A2 := S2.kept (grown_four w2 (w.heap.size + 1 + 1) (.int .i64 cap) (.slice (some ⟨g, off, none⟩) ms.length cp) (.int .i64 rcv) (.int .i64 pk)) (fun e => by have := Option.some.inj e; omega)
  have A3 := A2.store (.int .i64 0) (.int .i64 0) (.int .i64 0) (.int .i64 0) (.int .i64 0) (.slice none 0 0)
  have A4 := A1.kept (grown_six ((((w2.setCell ⟨w.heap.size + 1 + 1, 0, none⟩ (.int .i64 cap)).setCell ⟨w.heap.size + 1 + 1, 1, none⟩ (.slice (some ⟨g, off, none⟩) ms.length cp)).setCell ⟨w.heap.size + 1 + 1, 2, none⟩ (.int .i64 rcv)).setCell ⟨w.heap.size + 1 + 1, 3, none⟩ (.int .i64 pk)) (w.heap.size + 1 + 1 + 1) (.int .i64 0) (.int .i64 0) (.int .i64 0) (.int .i64 0) (.int .i64 0) (.slice none 0 0)) (fun e => by have := Option.some.inj e; omega)
  have A5 := B.out.trans (((below_four w2 (w.heap.size + 1 + 1) (.int .i64 cap) (.slice (some ⟨g, off, none⟩) ms.length cp) (.int .i64 rcv) (.int .i64 pk)).mono (show w.heap.size ≤ w.heap.size + 1 + 1 by omega)).trans ((below_six ((((w2.setCell ⟨w.heap.size + 1 + 1, 0, none⟩ (.int .i64 cap)).setCell ⟨w.heap.size + 1 + 1, 1, none⟩ (.slice (some ⟨g, off, none⟩) ms.length cp)).setCell ⟨w.heap.size + 1 + 1, 2, none⟩ (.int .i64 rcv)).setCell ⟨w.heap.size + 1 + 1, 3, none⟩ (.int .i64 pk)) (w.heap.size + 1 + 1 + 1) (.int .i64 0) (.int .i64 0) (.int .i64 0) (.int .i64 0) (.int .i64 0) (.slice none 0 0)).mono (show w.heap.size ≤ w.heap.size + 1 + 1 + 1 by omega)))
  have A6 := (below_four w2 (w.heap.size + 1 + 1) (.int .i64 cap) (.slice (some ⟨g, off, none⟩) ms.length cp) (.int .i64 rcv) (.int .i64 pk)).mono (show w.heap.size + 1 + 1 ≤ w.heap.size + 1 + 1 by omega) |>.trans ((below_six ((((w2.setCell ⟨w.heap.size + 1 + 1, 0, none⟩ (.int .i64 cap)).setCell ⟨w.heap.size + 1 + 1, 1, none⟩ (.slice (some ⟨g, off, none⟩) ms.length cp)).setCell ⟨w.heap.size + 1 + 1, 2, none⟩ (.int .i64 rcv)).setCell ⟨w.heap.size + 1 + 1, 3, none⟩ (.int .i64 pk)) (w.heap.size + 1 + 1 + 1) (.int .i64 0) (.int .i64 0) (.int .i64 0) (.int .i64 0) (.int .i64 0) (.slice none 0 0)).mono (show w.heap.size + 1 + 1 ≤ w.heap.size + 1 + 1 + 1 by omega))
  clear A1 A2 F2 S2 B
  generalize ((((((((((w2.setCell ⟨w.heap.size + 1 + 1, 0, none⟩ (.int .i64 cap)).setCell ⟨w.heap.size + 1 + 1, 1, none⟩ (.slice (some ⟨g, off, none⟩) ms.length cp)).setCell ⟨w.heap.size + 1 + 1, 2, none⟩ (.int .i64 rcv)).setCell ⟨w.heap.size + 1 + 1, 3, none⟩ (.int .i64 pk)).setCell ⟨w.heap.size + 1 + 1 + 1, 0, none⟩ (.int .i64 0)).setCell ⟨w.heap.size + 1 + 1 + 1, 1, none⟩ (.int .i64 0)).setCell ⟨w.heap.size + 1 + 1 + 1, 2, none⟩ (.int .i64 0)).setCell ⟨w.heap.size + 1 + 1 + 1, 3, none⟩ (.int .i64 0)).setCell ⟨w.heap.size + 1 + 1 + 1, 4, none⟩ (.int .i64 0)).setCell ⟨w.heap.size + 1 + 1 + 1, 5, none⟩ (.slice none 0 0)) = WZ at *
  obtain ⟨x0, x1, x2, x3⟩ := A4.cells
  obtain ⟨⟨y0, y1, y2⟩, y3, y4, y5⟩ := A3.cells
  refine bodyPost_ret (v := .tuple #[.agg #[.int .i64 cap, .slice (some ⟨g, off, none⟩) ms.length cp, .int .i64 rcv, .int .i64 pk], .agg #[.int .i64 0, .int .i64 0, .int .i64 0, .int .i64 0, .int .i64 0, .slice none 0 0], .int .i64 10]) ?_ rfl ⟨rfl, A5⟩
  clear A3 A4 A5 A6
  simp [results, Try.results15, x0, x1, x2, x3, y0, y1, y2, y3, y4, y5, go_sem]
set_option maxRecDepth 8000 in
set_option maxHeartbeats 2000000 in
theorem refRecv_ok (cap : Int) (sv : Value) (ms : List Ms) (rcv pk : Nat) (m : Ms) (hn : ms.length ≤ 1099511627776) (hm : ms[rcv]? = some m) (w : World) (h : MsgsR w sv ms) :
    Calls Try.prog 15 #[encL cap sv rcv pk, encT m.t] w fun e w' => ∃ u, e = .returned (.tuple #[encL cap sv (rcv + 1) pk, encM m.t u, .int .i64 0]) ∧ IntsW .i64 w.heap.size w' u m.zs ∧ Below w.heap.size w w' := by
  have hlt : rcv < ms.length := by
    apply Nat.lt_of_not_le; intro hge
    rw [List.getElem?_eq_none hge] at hm; cases hm
  rcases h with ⟨_, h0⟩ | ⟨g, off, cp, rfl, hcp, hc⟩
  · rw [h0] at hlt; simp at hlt
  obtain ⟨u, ⟨d0, d1, d2, d3, d4, d5⟩, hu⟩ := hc rcv m hm
  obtain ⟨ua, uc, rfl⟩ := hu.value
  have HU := Lib.hid hu
  clear hu hc hm
  have hL := Lib.hid (fun W => refLen_any cap (some ⟨g, off, none⟩) ms.length cp rcv pk (by omega) (by omega) W)
  unfold encL at hL ⊢
  obtain ⟨⟨ma, mb, mc, md, me⟩, zs⟩ := m
  dsimp only at d0 d1 d2 d3 d4 d5
  unfold encT encM
  dsimp only
  obtain ⟨W, hW, F1, T1, F2, S2, bW⟩ := recv_boxes w (.int .i64 cap) (.slice (some ⟨g, off, none⟩) ms.length cp) (.int .i64 rcv) (.int .i64 pk) (.int .i64 ma) (.int .i64 mb) (.int .i64 mc) (.int .i64 md) (.int .i64 me)
  have he : ((ms.length : Int) - (rcv : Int) == 0) = false := by simp; omega
  have he2 : ¬ ((ms.length : Int) - (rcv : Int) = 0) := by omega
  have i0 : (0 : Int) ≤ (rcv : Int) := by omega
  have i1 : (rcv : Int) < (ms.length : Int) := by omega
  go_enter Try.func15, Try.ntmps15
  go_upto_region 1 with fail
  rw [← hW]
  clear hW
  obtain ⟨c0, c1, c2, c3⟩ := F1.cells
  go_wp2_with fail
  refine (hL.out _).mono ?_
  rintro e w1 ⟨rfl, b1⟩
  replace F1 := F1.later b1
  replace F2 := F2.later b1
  replace S2 := S2.later b1
  replace T1 := T1.later b1
  have bV := bW.trans (b1.mono bW.size)
  have B1 := Lib.hid bV
  clear b1 c0 c1 c2 c3 hL bW
  replace d0 := cell_step bV d0
  replace d1 := cell_step bV d1
  replace d2 := cell_step bV d2
  replace d3 := cell_step bV d3
  replace d4 := cell_step bV d4
  replace d5 := cell_step bV d5
  clear bV
  obtain ⟨c0, c1, c2, c3⟩ := F1.cells
  go_upto_region 4 with fail
  have b2 : Below w1.heap.size w1 (w1.alloc (.cells #[.int .i64 ma, .int .i64 mb, .int .i64 mc, .int .i64 md, .int .i64 me, .slice ua zs.length uc] 34)) := (Below.refl _ _).alloc (Nat.le_refl _) _
  have hs1 := S2.lt
  have S4 := Six.new w1 34 (.int .i64 ma) (.int .i64 mb) (.int .i64 mc) (.int .i64 md) (.int .i64 me) (.slice ua zs.length uc)
  replace F1 := F1.later b2
  replace F2 := F2.later b2
  replace S2 := S2.later b2
  replace T1 := T1.later b2
  have B := Lib.hid (B1.out.trans (b2.mono B1.out.size))
  clear B1 b2 d0 d1 d2 d3 d4 d5 c0 c1 c2 c3
  generalize w1.alloc (.cells #[.int .i64 ma, .int .i64 mb, .int .i64 mc, .int .i64 md, .int .i64 me, .slice ua zs.length uc] 34) = w2 at *
  have hnq : ∀ W : World, (binOp .neq 31 (.agg #[.int .i64 ma, .int .i64 mb, .int .i64 mc, .int .i64 md, .int .i64 me]) (.agg #[.int .i64 ma, .int .i64 mb, .int .i64 mc, .int .i64 md, .int .i64 me])).run Try.prog W = .ok (.bool false) W := by
    intro W
    rw [neq_tag, beq_self_eq_true]
    rfl
  obtain ⟨c0, c1, c2, c3⟩ := F1.cells
  obtain ⟨t0, t1, t2, t3, t4⟩ := T1.cells
  obtain ⟨⟨s0, s1, s2⟩, s3, s4, s5⟩ := S4.cells
  obtain ⟨r1, hr1⟩ : ∃ r1, r1 = rcv + 1 := ⟨_, rfl⟩
  have wr : IntKind.i64.wrap ((rcv : Int) + 1) = (r1 : Int) := (IntWalk.i64_in _ (by omega)).trans (by omega)
  have wr2 : (rcv : Int) + 1 = (r1 : Int) := by omega
  have HR1 := Lib.hid hr1
  clear hr1
  have f2 := F1.frozen 2
  go_upto_region 7 with fail
  have G := grown_set w2 w.heap.size 2 (.int .i64 (r1 : Int))
  have b3 := below_set (o := 2) (x := .int .i64 (r1 : Int)) B.out (Nat.le_refl _)
  replace F1 := F1.set2 (.int .i64 (r1 : Int))
  replace F2 := F2.kept G (fun e => by have := Option.some.inj e; omega)
  replace S2 := S2.kept G (fun e => by have := Option.some.inj e; omega)
  replace S4 := S4.kept G (fun e => by have := Option.some.inj e; omega)
  clear c0 c1 c2 c3 t0 t1 t2 t3 t4 s0 s1 s2 s3 s4 s5 f2 T1 hnq G B
  generalize w2.setCell ⟨w.heap.size, 2, none⟩ (.int .i64 (r1 : Int)) = w3 at *
  obtain ⟨c0, c1, c2, c3⟩ := F1.cells
  obtain ⟨⟨s0, s1, s2⟩, s3, s4, s5⟩ := S4.cells
  clear F1 S4
  refine wp_region_held_drew (S := fun w' => w'.cell? ⟨w.heap.size, 0, none⟩ = some (.int .i64 cap) ∧ w'.cell? ⟨w.heap.size, 1, none⟩ = some (.slice (some ⟨g, off, none⟩) ms.length cp) ∧ w'.cell? ⟨w.heap.size, 2, none⟩ = some (.int .i64 (r1 : Int)) ∧ w'.cell? ⟨w.heap.size, 3, none⟩ = some (.int .i64 pk) ∧ w'.cell? ⟨w1.heap.size, 0, none⟩ = some (.int .i64 ma) ∧ w'.cell? ⟨w1.heap.size, 1, none⟩ = some (.int .i64 mb) ∧ w'.cell? ⟨w1.heap.size, 2, none⟩ = some (.int .i64 mc) ∧ w'.cell? ⟨w1.heap.size, 3, none⟩ = some (.int .i64 md) ∧ w'.cell? ⟨w1.heap.size, 4, none⟩ = some (.int .i64 me) ∧ w'.cell? ⟨w1.heap.size, 5, none⟩ = some (.slice ua zs.length uc)) (by kernel_rfl) ?_ (fun hHeld => ?_)
  · exact ⟨c0, c1, c2, c3, s0, s1, s2, s3, s4, s5⟩
  refine wpAnyH_take (i := 0) (v := ?v1) rfl (by kernel_rfl) (by kernel_rfl) (by kernel_rfl) (fun _ _ _ h => h) (Or.inl ⟨by rfl, ?hy1⟩) (by assumption) ?rest1
  case hy1 => (intro w hSw; (try dsimp only at hSw); go_simp; (first | done | with_reducible rfl))
  simp only [Act.put, List.setIfInBounds_toArray, List.set_cons_zero, List.set_cons_succ, List.getElem_toArray, List.getElem_cons_zero]
  refine wpAnyH_take (i := 1) (v := ?v2) rfl (by kernel_rfl) (by kernel_rfl) (by kernel_rfl) (fun _ _ _ h => h) (Or.inl ⟨by rfl, ?hy2⟩) (by assumption) ?rest2
  case hy2 => (intro w hSw; (try dsimp only at hSw); go_simp; (first | done | with_reducible rfl))
  simp only [Act.put, List.setIfInBounds_toArray, List.set_cons_zero, List.set_cons_succ, List.getElem_toArray, List.getElem_cons_zero, List.getElem_cons_succ]
  have bd : Below w3.heap.size w3 w3.drew := (Below.refl _ _).drew
  replace F2 := F2.later bd
  replace S2 := S2.later bd
  have B := Lib.hid (b3.trans (bd.mono b3.size))
  replace c0 := cell_step bd c0
  replace c1 := cell_step bd c1
  replace c2 := cell_step bd c2
  replace c3 := cell_step bd c3
  replace s0 := cell_step bd s0
  replace s1 := cell_step bd s1
  replace s2 := cell_step bd s2
  replace s3 := cell_step bd s3
  replace s4 := cell_step bd s4
  replace s5 := cell_step bd s5
  clear bd b3
  generalize w3.drew = W at *
  have hl0 : w.heap.size < W.heap.size := World.block_lt_of_cell? _ _ c0
  have hl4 : w1.heap.size < W.heap.size := World.block_lt_of_cell? _ _ s0
  have f0 := F2.frozen 0
  have f1 := F2.frozen 1
  have f2 := F2.frozen 2
  have f3 := F2.frozen 3
  have g0 := S2.frozen 0
  have g1 := S2.frozen 1
  have g2 := S2.frozen 2
  have g3 := S2.frozen 3
  have g4 := S2.frozen 4
  have g5 := S2.frozen 5
  obtain ⟨p0, p1, p2, p3⟩ := F2.cells
  obtain ⟨⟨q0, q1, q2⟩, q3, q4, q5⟩ := S2.cells
  refine wpAnyH_ready (rs := [2]) (by kernel_rfl) (by simp) ?_
  refine AllReadyH.cons rfl (fun K hK => ?_) AllReadyH.nil
  simp only [List.getElem_toArray, List.getElem_cons_zero, List.getElem_cons_succ]
  go_simp
  have A1 := F2.store (.int .i64 cap) (.slice (some ⟨g, off, none⟩) ms.length cp) (.int .i64 (r1 : Int)) (.int .i64 pk)
  have G2 := grown_four W (w.heap.size + 1 + 1) (.int .i64 cap) (.slice (some ⟨g, off, none⟩) ms.length cp) (.int .i64 (r1 : Int)) (.int .i64 pk)
  have A2 := S2.kept G2 (fun e => by have := Option.some.inj e; omega)
  have A6 := below_four W (w.heap.size + 1 + 1) (.int .i64 cap) (.slice (some ⟨g, off, none⟩) ms.length cp) (.int .i64 (r1 : Int)) (.int .i64 pk)
  refine hK.out _ _ ⟨(grown_cell G2 hl0 (by omega)).trans c0, (grown_cell G2 hl0 (by omega)).trans c1, (grown_cell G2 hl0 (by omega)).trans c2, (grown_cell G2 hl0 (by omega)).trans c3, (grown_cell G2 hl4 (by omega)).trans s0, (grown_cell G2 hl4 (by omega)).trans s1, (grown_cell G2 hl4 (by omega)).trans s2, (grown_cell G2 hl4 (by omega)).trans s3, (grown_cell G2 hl4 (by omega)).trans s4, (grown_cell G2 hl4 (by omega)).trans s5⟩ (fun hHeld => ?_)
  clear hK K F2 S2 p0 p1 p2 p3 q0 q1 q2 q3 q4 q5 f0 f1 f2 f3 g0 g1 g2 g3 g4 g5
  replace c0 := (grown_cell G2 hl0 (by omega)).trans c0
  replace c1 := (grown_cell G2 hl0 (by omega)).trans c1
  replace c2 := (grown_cell G2 hl0 (by omega)).trans c2
  replace c3 := (grown_cell G2 hl0 (by omega)).trans c3
  replace s0 := (grown_cell G2 hl4 (by omega)).trans s0
  replace s1 := (grown_cell G2 hl4 (by omega)).trans s1
  replace s2 := (grown_cell G2 hl4 (by omega)).trans s2
  replace s3 := (grown_cell G2 hl4 (by omega)).trans s3
  replace s4 := (grown_cell G2 hl4 (by omega)).trans s4
  replace s5 := (grown_cell G2 hl4 (by omega)).trans s5
  replace B := Lib.hid (B.out.trans (A6.mono (show w.heap.size ≤ w.heap.size + 1 + 1 by omega)))
  replace hl0 := Nat.lt_of_lt_of_le hl0 G2.size
  replace hl4 := Nat.lt_of_lt_of_le hl4 G2.size
  clear G2 A6
  generalize ((((W.setCell ⟨w.heap.size + 1 + 1, 0, none⟩ (.int .i64 cap)).setCell ⟨w.heap.size + 1 + 1, 1, none⟩ (.slice (some ⟨g, off, none⟩) ms.length cp)).setCell ⟨w.heap.size + 1 + 1, 2, none⟩ (.int .i64 (r1 : Int))).setCell ⟨w.heap.size + 1 + 1, 3, none⟩ (.int .i64 pk)) = V at *
  have g0 := A2.frozen 0
  have g1 := A2.frozen 1
  have g2 := A2.frozen 2
  have g3 := A2.frozen 3
  have g4 := A2.frozen 4
  have g5 := A2.frozen 5
  obtain ⟨⟨q0, q1, q2⟩, q3, q4, q5⟩ := A2.cells
  try simp only [Act.put, List.setIfInBounds_toArray, List.set_cons_zero, List.set_cons_succ, List.getElem_toArray, List.getElem_cons_zero, List.getElem_cons_succ]
  refine wpAnyH_ready (rs := [3]) (by kernel_rfl) (by simp) ?_
  refine AllReadyH.cons rfl (fun K hK => ?_) AllReadyH.nil
  simp only [List.getElem_toArray, List.getElem_cons_zero, List.getElem_cons_succ]
  go_simp
  have A3 := A2.store (.int .i64 ma) (.int .i64 mb) (.int .i64 mc) (.int .i64 md) (.int .i64 me) (.slice ua zs.length uc)
  have G3 := grown_six V (w.heap.size + 1 + 1 + 1) (.int .i64 ma) (.int .i64 mb) (.int .i64 mc) (.int .i64 md) (.int .i64 me) (.slice ua zs.length uc)
  have A4 := A1.kept G3 (fun e => by have := Option.some.inj e; omega)
  have A5 := B.out.trans ((below_six V (w.heap.size + 1 + 1 + 1) (.int .i64 ma) (.int .i64 mb) (.int .i64 mc) (.int .i64 md) (.int .i64 me) (.slice ua zs.length uc)).mono (show w.heap.size ≤ w.heap.size + 1 + 1 + 1 by omega))
  refine hK.out _ _ ⟨(grown_cell G3 hl0 (by omega)).trans c0, (grown_cell G3 hl0 (by omega)).trans c1, (grown_cell G3 hl0 (by omega)).trans c2, (grown_cell G3 hl0 (by omega)).trans c3, (grown_cell G3 hl4 (by omega)).trans s0, (grown_cell G3 hl4 (by omega)).trans s1, (grown_cell G3 hl4 (by omega)).trans s2, (grown_cell G3 hl4 (by omega)).trans s3, (grown_cell G3 hl4 (by omega)).trans s4, (grown_cell G3 hl4 (by omega)).trans s5⟩ (fun hHeld => ?_)
  clear hK K
  try simp only [Act.put, List.setIfInBounds_toArray, List.set_cons_zero, List.set_cons_succ, List.getElem_toArray, List.getElem_cons_zero, List.getElem_cons_succ]
  refine wpAnyH_ready (rs := [4]) (by kernel_rfl) (by simp) ?_
  refine AllReadyH.cons rfl (fun K hK => ?_) AllReadyH.nil
  simp only [List.getElem_toArray, List.getElem_cons_zero, List.getElem_cons_succ]
  go_simp
  refine hK.out _ _ hHeld (fun hHeld => ?_)
  clear hK K
  try simp only [Act.put, List.setIfInBounds_toArray, List.set_cons_zero, List.set_cons_succ, List.getElem_toArray, List.getElem_cons_zero, List.getElem_cons_succ]
  refine wpAnyH_done (by kernel_rfl) ?_ _
  clear hHeld A1 A2 B q0 q1 q2 q3 q4 q5 g0 g1 g2 g3 g4 g5 c0 c1 c2 c3 s0 s1 s2 s3 s4 s5 G3
  generalize ((((((V.setCell ⟨w.heap.size + 1 + 1 + 1, 0, none⟩ (.int .i64 ma)).setCell ⟨w.heap.size + 1 + 1 + 1, 1, none⟩ (.int .i64 mb)).setCell ⟨w.heap.size + 1 + 1 + 1, 2, none⟩ (.int .i64 mc)).setCell ⟨w.heap.size + 1 + 1 + 1, 3, none⟩ (.int .i64 md)).setCell ⟨w.heap.size + 1 + 1 + 1, 4, none⟩ (.int .i64 me)).setCell ⟨w.heap.size + 1 + 1 + 1, 5, none⟩ (.slice ua zs.length uc)) = WZ at *
  obtain ⟨x0, x1, x2, x3⟩ := A4.cells
  obtain ⟨⟨y0, y1, y2⟩, y3, y4, y5⟩ := A3.cells
  go_upto_region 8 with fail
  refine bodyPost_ret (v := .tuple #[.agg #[.int .i64 cap, .slice (some ⟨g, off, none⟩) ms.length cp, .int .i64 (r1 : Int), .int .i64 pk], .agg #[.int .i64 ma, .int .i64 mb, .int .i64 mc, .int .i64 md, .int .i64 me, .slice ua zs.length uc], .int .i64 0]) ?_ rfl ⟨_, by rw [HR1.out], HU.out.below A5, A5⟩
  clear A3 A4 A5
  simp [results, Try.results15, x0, x1, x2, x3, y0, y1, y2, y3, y4, y5, go_sem]
end Go.Proofs.Ytgbgmmakiimbbaa
