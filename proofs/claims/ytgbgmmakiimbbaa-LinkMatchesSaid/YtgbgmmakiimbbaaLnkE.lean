/- Layer 18: Receive. -/
import Derived.Test.YtgbgmmakiimbbaaLnkT
namespace Go.Proofs.Ytgbgmmakiimbbaa
open Go.RowKit
set_option linter.unusedVariables false
def zeroT : Tg := ⟨0, 0, 0, 0, 0⟩
theorem Five.new (w : World) (t : TypeId) (x0 x1 x2 x3 x4 : Value) : Five (w.alloc (.cells #[x0, x1, x2, x3, x4] t)) w.heap.size t x0 x1 x2 x3 x4 := (MapKept.heap_alloc _ _).1
theorem Six.new (w : World) (t : TypeId) (x0 x1 x2 x3 x4 x5 : Value) : Six (w.alloc (.cells #[x0, x1, x2, x3, x4, x5] t)) w.heap.size t x0 x1 x2 x3 x4 x5 := (MapKept.heap_alloc _ _).1
set_option maxHeartbeats 2000000 in
theorem recv_ok {B : Nat} (b cap rcv hi : Nat) (m : Ms) (q : List Ms) (w : World) (h : LinkAt b B cap (m :: q) rcv hi w) (hk : LinkOk cap (m :: q) rcv hi) :
    Calls Try.prog 14 #[.pointer (some ⟨b, 0, none⟩), encT m.t] w fun e w' => ∃ v, e = .returned (.tuple #[encM m.t v, .int .i64 0]) ∧ w'.ownsRow B 2 1 v m.zs.length (m.zs.map (Value.int .i64)) ∧ LinkAt b B cap q (rcv + 1) hi w' ∧ Touch b (ringB b w) w w' ∧ ringB b w' = ringB b w := by
  obtain ⟨⟨ta, tb, tc, td, te⟩, zs⟩ := m
  unfold encT encM
  dsimp only
  have bA := (Below.refl w.heap.size w).alloc (Nat.le_refl _) (.cells #[.int .i64 ta, .int .i64 tb, .int .i64 tc, .int .i64 td, .int .i64 te] 31)
  have bB := bA.alloc bA.size (.cells #[.int .i64 0, .int .i64 0, .int .i64 0, .int .i64 0, .int .i64 0, .slice none 0 0] 34)
  have hA := h.later bB
  have f0 := (Five.new w 31 (.int .i64 ta) (.int .i64 tb) (.int .i64 tc) (.int .i64 td) (.int .i64 te)).later ((Below.refl _ _).alloc (Nat.le_refl _) (.cells #[.int .i64 0, .int .i64 0, .int .i64 0, .int .i64 0, .int .i64 0, .slice none 0 0] 34))
  have s0 := Six.new (w.alloc (.cells #[.int .i64 ta, .int .i64 tb, .int .i64 tc, .int .i64 td, .int .i64 te] 31)) 34 (.int .i64 0) (.int .i64 0) (.int .i64 0) (.int .i64 0) (.int .i64 0) (.slice none 0 0)
  rw [World.size_alloc] at s0
  have hsz : ((w.alloc (.cells #[.int .i64 ta, .int .i64 tb, .int .i64 tc, .int .i64 td, .int .i64 te] 31)).alloc (.cells #[.int .i64 0, .int .i64 0, .int .i64 0, .int .i64 0, .int .i64 0, .slice none 0 0] 34)).heap.size = w.heap.size + 2 := by simp
  have hbl := h.lt
  have hcpy := h
  obtain ⟨hbB, hBw, first, R, rv, cs, o1w, o2w, ⟨o3, o4, o5⟩, o6w⟩ := hcpy
  have hR : 0 < R := by simp at o3; omega
  have hfR : first < R := by omega
  obtain ⟨g, rc, rfl, hgb, hgw⟩ := own_some o2w hR
  have HRG := Lib.hid (ringB_of o1w)
  have O1w := Lib.hid o1w
  have O2w := Lib.hid o2w
  have O6w := Lib.hid o6w
  clear o1w o2w o6w
  go_enter Try.func14, Try.ntmps14
  go_wp2_with fail
  generalize (w.alloc (.cells #[.int .i64 ta, .int .i64 tb, .int .i64 tc, .int .i64 td, .int .i64 te] 31)).alloc (.cells #[.int .i64 0, .int .i64 0, .int .i64 0, .int .i64 0, .int .i64 0, .slice none 0 0] 34) = W0 at *
  refine (peek_any b cap rcv hi _ W0 hA hk).mono ?_
  rintro e w1 ⟨rfl, b1⟩
  unfold encT headT someB
  have f1 := f0.later b1
  have s1 := s0.later b1
  have h1 := hA.later b1
  have B1 := bB.trans (b1.mono bB.size)
  have hs1 := b1.size
  clear f0 s0 hA bA bB b1 h
  have b2 := (Below.refl w1.heap.size w1).alloc (Nat.le_refl _) (.cells #[.int .i64 ta, .int .i64 tb, .int .i64 tc, .int .i64 td, .int .i64 te] 31)
  have f2 := f1.later b2
  have g2 := Five.new w1 31 (.int .i64 ta) (.int .i64 tb) (.int .i64 tc) (.int .i64 td) (.int .i64 te)
  have s2 := Lib.hid (s1.later b2)
  have h2 := Lib.hid (h1.later b2)
  have B2 := Lib.hid (B1.trans (b2.mono B1.size))
  have hs2 : (w1.alloc (.cells #[.int .i64 ta, .int .i64 tb, .int .i64 tc, .int .i64 td, .int .i64 te] 31)).heap.size = w1.heap.size + 1 := by simp
  obtain ⟨d0, d1, d2, d3, d4⟩ := f2.cells
  obtain ⟨k0, k1, k2, k3, k4⟩ := g2.cells
  have hnq : ∀ W : World, (binOp .neq 31 (.agg #[.int .i64 ta, .int .i64 tb, .int .i64 tc, .int .i64 td, .int .i64 te]) (.agg #[.int .i64 ta, .int .i64 tb, .int .i64 tc, .int .i64 td, .int .i64 te])).run Try.prog W = .ok (.bool false) W := by
    intro W
    rw [neq_tag, beq_self_eq_true]
    rfl
  clear f1 s1 h1 B1 b2 f2 g2
  dsimp only [List.isEmpty_cons, Bool.not_false]
  go_upto_region 8 with fail
  generalize w1.alloc (.cells #[.int .i64 ta, .int .i64 tb, .int .i64 tc, .int .i64 td, .int .i64 te] 31) = W2 at *
  clear d0 d1 d2 d3 d4 k0 k1 k2 k3 k4 hnq
  have o1 : LinkB W2 b cap _ first _ rcv hi := Six.later O1w.out B2.out
  have o2 := own_below O2w.out B2.out
  have o6 := fun i m hm => (O6w.out i m hm).later B2.out
  have o60 := o6 0 _ rfl
  rw [show (first + 0) % R = first from Nat.mod_eq_of_lt hfR] at o60
  obtain ⟨v, ⟨m0, m1, m2, m3, m4, m5⟩, hv⟩ := o60
  dsimp only at m0 m1 m2 m3 m4 m5 hv
  have hcl : cs.length = R * 6 := o2.1
  have x0 := (o2.cellAt (first * 6) (by omega)).trans m0
  have x1 := (o2.cellAt (first * 6 + 1) (by omega)).trans m1
  have x2 := (o2.cellAt (first * 6 + 2) (by omega)).trans m2
  have x3 := (o2.cellAt (first * 6 + 3) (by omega)).trans m3
  have x4 := (o2.cellAt (first * 6 + 4) (by omega)).trans m4
  have x5 := (o2.cellAt (first * 6 + 5) (by omega)).trans m5
  obtain ⟨va, vc, rfl⟩ := own_value hv
  obtain ⟨⟨c0, c1, c2⟩, c3, c4, c5⟩ := Six.cells o1
  have i0 : (0 : Int) ≤ (first : Int) := by omega
  have i1 : (first : Int) < (R : Int) := by omega
  have O1 := Lib.hid o1
  have O2 := Lib.hid o2
  have O6 := Lib.hid o6
  have HV := Lib.hid hv
  clear o1 o2 o6 hv m0 m1 m2 m3 m4 m5 c0 c3 c4 c5 h2
  have bZ := (Below.refl W2.heap.size W2).alloc (Nat.le_refl _) (.cells #[.int .i64 0, .int .i64 0, .int .i64 0, .int .i64 0, .int .i64 0, .slice none 0 0] 34)
  have y0 := cell_step bZ x0
  have y1 := cell_step bZ x1
  have y2 := cell_step bZ x2
  have y3 := cell_step bZ x3
  have y4 := cell_step bZ x4
  have y5 := cell_step bZ x5
  have e1 := cell_step bZ c1
  have e2 := cell_step bZ c2
  clear bZ
  go_region
  go_upto_region 9 with fail
  clear x0 x1 x2 x3 x4 x5 y0 y1 y2 y3 y4 y5 e1 e2 c1 c2
  have b3 : Below W2.heap.size W2 ((W2.alloc (.cells #[.int .i64 ta, .int .i64 tb, .int .i64 tc, .int .i64 td, .int .i64 te, .slice va zs.length vc] 34)).drew) := ((Below.refl _ _).alloc (Nat.le_refl _) _).drew
  have t8 := (Six.new W2 34 (.int .i64 ta) (.int .i64 tb) (.int .i64 tc) (.int .i64 td) (.int .i64 te) (.slice va zs.length vc)).later (Below.refl _ _).drew
  have B3 := Lib.hid (B2.out.trans (b3.mono B2.out.size))
  have s3 := s2.out.later b3
  have O13 := Six.later O1.out b3
  have O23 := own_below O2.out b3
  have O63 := Lib.hid (fun i m hm => (O6.out i m hm).later b3)
  have HV3 := Lib.hid (own_below HV.out b3)
  have hsz3 := b3.size
  have hw2 := B2.out.size
  clear b3 O1 O2 O6 HV O1w O2w O6w s2 B2
  generalize (W2.alloc (.cells #[.int .i64 ta, .int .i64 tb, .int .i64 tc, .int .i64 td, .int .i64 te, .slice va zs.length vc] 34)).drew = W3 at *
  generalize hT8 : W2.heap.size = T8 at *
  subst hs2
  have z (k : Nat) (hk : k < 6) : ∃ x, W3.cell? ⟨g, first * 6 + k, none⟩ = some x := ⟨_, (O23.cellAt (first * 6 + k) (by omega)).trans (List.getElem?_eq_getElem (by omega))⟩
  obtain ⟨x0, z0⟩ := z 0 (by omega)
  obtain ⟨x1, z1⟩ := z 1 (by omega)
  obtain ⟨x2, z2⟩ := z 2 (by omega)
  obtain ⟨x3, z3⟩ := z 3 (by omega)
  obtain ⟨x4, z4⟩ := z 4 (by omega)
  obtain ⟨x5, z5⟩ := z 5 (by omega)
  rw [Nat.add_zero] at z0
  have q0 := O23.frozenAt (first * 6)
  have q1 := O23.frozenAt (first * 6 + 1)
  have q2 := O23.frozenAt (first * 6 + 2)
  have q3 := O23.frozenAt (first * 6 + 3)
  have q4 := O23.frozenAt (first * 6 + 4)
  have q5 := O23.frozenAt (first * 6 + 5)
  obtain ⟨⟨c0, c1, c2⟩, c3, c4, c5⟩ := Six.cells O13
  have P := put6 O23 first (.int .i64 0) (.int .i64 0) (.int .i64 0) (.int .i64 0) (.int .i64 0) (.slice none 0 0)
  have T8 := Lib.hid t8
  have S3 := Lib.hid s3
  have HO1 := Lib.hid O13
  have HP := Lib.hid P
  have HO2 := Lib.hid O23
  clear z O13 O23 t8 s3 P c0 c3 c4 c5
  go_region
  go_upto_region 10 with fail
  clear z0 z1 z2 z3 z4 z5 q0 q1 q2 q3 q4 q5 c1 c2
  have b4 : Below ((((((W3.setCell ⟨g, first * 6, none⟩ (.int .i64 0)).setCell ⟨g, first * 6 + 1, none⟩ (.int .i64 0)).setCell ⟨g, first * 6 + 2, none⟩ (.int .i64 0)).setCell ⟨g, first * 6 + 3, none⟩ (.int .i64 0)).setCell ⟨g, first * 6 + 4, none⟩ (.int .i64 0)).setCell ⟨g, first * 6 + 5, none⟩ (.slice none 0 0)).heap.size ((((((W3.setCell ⟨g, first * 6, none⟩ (.int .i64 0)).setCell ⟨g, first * 6 + 1, none⟩ (.int .i64 0)).setCell ⟨g, first * 6 + 2, none⟩ (.int .i64 0)).setCell ⟨g, first * 6 + 3, none⟩ (.int .i64 0)).setCell ⟨g, first * 6 + 4, none⟩ (.int .i64 0)).setCell ⟨g, first * 6 + 5, none⟩ (.slice none 0 0)) ((((((W3.setCell ⟨g, first * 6, none⟩ (.int .i64 0)).setCell ⟨g, first * 6 + 1, none⟩ (.int .i64 0)).setCell ⟨g, first * 6 + 2, none⟩ (.int .i64 0)).setCell ⟨g, first * 6 + 3, none⟩ (.int .i64 0)).setCell ⟨g, first * 6 + 4, none⟩ (.int .i64 0)).setCell ⟨g, first * 6 + 5, none⟩ (.slice none 0 0)).drew := (Below.refl _ _).drew
  have G4 := grown_trans HP.out.2 (grown_below b4 (some g))
  have R4 := Lib.hid (own_below HP.out.1 b4)
  clear HP b4
  generalize ((((((W3.setCell ⟨g, first * 6, none⟩ (.int .i64 0)).setCell ⟨g, first * 6 + 1, none⟩ (.int .i64 0)).setCell ⟨g, first * 6 + 2, none⟩ (.int .i64 0)).setCell ⟨g, first * 6 + 3, none⟩ (.int .i64 0)).setCell ⟨g, first * 6 + 4, none⟩ (.int .i64 0)).setCell ⟨g, first * 6 + 5, none⟩ (.slice none 0 0)).drew = W4 at *
  have V4 := Lib.hid (HV3.out.kept G4 (type_apart HV3.out HO2.out (by decide)))
  have L4 : LinkB W4 b cap _ first _ rcv hi := Six.kept HO1.out G4 (fun e => absurd (Option.some.inj e) (by omega))
  have T4 := Lib.hid (T8.out.kept G4 (fun e => absurd (Option.some.inj e) (by omega)))
  have S4 := Lib.hid (S3.out.kept G4 (fun e => absurd (Option.some.inj e) (by omega)))
  have M4 := Lib.hid (show ∀ i m', q[i]? = some m' → MsgAt W4 B (set6 cs first (.int .i64 0) (.int .i64 0) (.int .i64 0) (.int .i64 0) (.int .i64 0) (.slice none 0 0)) (((first + 1) % R + i) % R) m' from fun i m' hm => by
    have hil : i < q.length := by
      apply Nat.lt_of_not_le; intro hge
      rw [List.getElem?_eq_none hge] at hm; cases hm
    rw [mod_step]
    exact (O63.out (i + 1) m' hm).moved (mod_ne hfR (by simp at o3; omega)) HO2.out G4 _ _ _ _ _ _)
  have B4 := Lib.hid ((Touch.of_below (r := ringB b w) B3.out (Nat.le_of_lt hbl)).grown G4 (.inl (by rw [HRG.out]; rfl)) (by omega) (Nat.le_of_lt hbl))
  clear G4 HV3 HO1 HO2 T8 S3 O63 B3
  have hLB := Lib.hid L4
  obtain ⟨k1, k2, k3, k4⟩ := hk
  go_wp2_with fail
  refine (place_any b cap (some ⟨g, 0, none⟩) R rc first _ rcv hi 1 hR (by omega) W4 L4).mono ?_
  rintro e W5 ⟨rfl, rfl⟩
  have b5 : Below W4.heap.size W4 W4.drew := (Below.refl _ _).drew
  have L5 := Six.later L4 b5
  have R5 := Lib.hid (own_below R4.out b5)
  have V5 := Lib.hid (own_below V4.out b5)
  have T5 := Lib.hid (T4.out.later b5)
  have S5 := Lib.hid (S4.out.later b5)
  have M5 := Lib.hid (fun i m hm => (M4.out i m hm).later b5)
  have B5 := Lib.hid (B4.out.drew (Nat.le_of_lt hbl))
  clear L4 R4 V4 T4 S4 M4 B4 hLB b5
  generalize W4.drew = W5 at *
  have f2 := L5.frozen 2
  obtain ⟨⟨c0, c1, c2⟩, c3, c4, c5⟩ := Six.cells L5
  have L6 := Lib.hid (L5.set2 (.int .i64 (((first + 1) % R : Nat) : Int)))
  clear L5 c0 c1 c3 c4 c5
  generalize hf' : (first + 1) % R = f' at *
  go_upto_region 11 with fail
  have R6 := Lib.hid (row_set (b := b) (o := 2) R5.out (by omega) (.int .i64 (f' : Int)))
  have V6 := Lib.hid (row_set (b := b) (o := 2) V5.out (by omega) (.int .i64 (f' : Int)))
  have T6 := Lib.hid (T5.out.kept (grown_set W5 b 2 (.int .i64 (f' : Int))) (fun e => absurd (Option.some.inj e) (by omega)))
  have S6 := Lib.hid (S5.out.kept (grown_set W5 b 2 (.int .i64 (f' : Int))) (fun e => absurd (Option.some.inj e) (by omega)))
  have M6 := Lib.hid (fun i m hm => (M5.out i m hm).set (b := b) (o := 2) (by omega) (.int .i64 (f' : Int)))
  have B6 := Lib.hid (B5.out.set (o := 2) (x := .int .i64 (f' : Int)) (Nat.le_of_lt hbl))
  clear R5 V5 T5 S5 M5 B5 c2 f2
  generalize W5.setCell ⟨b, 2, none⟩ (.int .i64 (f' : Int)) = W6 at *
  have f4 := L6.out.frozen 4
  obtain ⟨⟨c0, c1, c2⟩, c3, c4, c5⟩ := Six.cells L6.out
  have wr : IntKind.i64.wrap ((rcv : Int) + 1) = ((rcv + 1 : Nat) : Int) := (IntWalk.i64_in _ (by omega)).trans (by omega)
  have wr2 : (rcv : Int) + 1 = ((rcv + 1 : Nat) : Int) := by omega
  have L7 := Lib.hid (L6.out.set4 (.int .i64 ((rcv + 1 : Nat) : Int)))
  have hrr : rcv + (q.length + 1) = rcv + 1 + q.length := by omega
  clear c0 c1 c2 c3 c5
  generalize hrcv : rcv + 1 = rcv' at *
  go_region
  go_upto_region 12 with fail
  have b7 : Below (W6.setCell ⟨b, 4, none⟩ (.int .i64 (rcv' : Int))).heap.size (W6.setCell ⟨b, 4, none⟩ (.int .i64 (rcv' : Int))) (W6.setCell ⟨b, 4, none⟩ (.int .i64 (rcv' : Int))).drew := (Below.refl _ _).drew
  have L8 := Lib.hid (Six.later L7.out b7)
  have R7 := Lib.hid (own_below (row_set (b := b) (o := 4) R6.out (by omega) (.int .i64 (rcv' : Int))) b7)
  have V7 := Lib.hid (own_below (row_set (b := b) (o := 4) V6.out (by omega) (.int .i64 (rcv' : Int))) b7)
  have T7 := (T6.out.kept (grown_set W6 b 4 (.int .i64 (rcv' : Int))) (fun e => absurd (Option.some.inj e) (by omega))).later b7
  have S7 := (S6.out.kept (grown_set W6 b 4 (.int .i64 (rcv' : Int))) (fun e => absurd (Option.some.inj e) (by omega))).later b7
  have M7 := Lib.hid (fun i m hm => ((M6.out i m hm).set (b := b) (o := 4) (by omega) (.int .i64 (rcv' : Int))).later b7)
  have B7 := Lib.hid ((B6.out.set (o := 4) (x := .int .i64 (rcv' : Int)) (Nat.le_of_lt hbl)).drew (Nat.le_of_lt hbl))
  clear L6 L7 R6 V6 T6 S6 M6 B6 b7 c4 f4
  generalize (W6.setCell ⟨b, 4, none⟩ (.int .i64 (rcv' : Int))).drew = W7 at *
  obtain ⟨⟨c0, c1, c2⟩, c3, c4, c5⟩ := T7.cells
  obtain ⟨⟨d0, d1, d2⟩, d3, d4, d5⟩ := S7.cells
  have f0 := S7.frozen 0
  have f1 := S7.frozen 1
  have f2 := S7.frozen 2
  have f3 := S7.frozen 3
  have f4 := S7.frozen 4
  have f5 := S7.frozen 5
  have S7h := Lib.hid S7
  clear S7 T7
  go_wp2_with fail
  have GG := grown_six W7 (w.heap.size + 1) (.int .i64 ta) (.int .i64 tb) (.int .i64 tc) (.int .i64 td) (.int .i64 te) (.slice va zs.length vc)
  have SS := S7h.out.store (.int .i64 ta) (.int .i64 tb) (.int .i64 tc) (.int .i64 td) (.int .i64 te) (.slice va zs.length vc)
  have BB := below_six W7 (w.heap.size + 1) (.int .i64 ta) (.int .i64 tb) (.int .i64 tc) (.int .i64 td) (.int .i64 te) (.slice va zs.length vc)
  generalize ((((((W7.setCell ⟨w.heap.size + 1, 0, none⟩ (.int .i64 ta)).setCell ⟨w.heap.size + 1, 1, none⟩ (.int .i64 tb)).setCell ⟨w.heap.size + 1, 2, none⟩ (.int .i64 tc)).setCell ⟨w.heap.size + 1, 3, none⟩ (.int .i64 td)).setCell ⟨w.heap.size + 1, 4, none⟩ (.int .i64 te)).setCell ⟨w.heap.size + 1, 5, none⟩ (.slice va zs.length vc)) = W8 at *
  obtain ⟨⟨x0, x1, x2⟩, x3, x4, x5⟩ := SS.cells
  have L9 := Six.kept L8.out GG (fun e => absurd (Option.some.inj e) (by omega))
  subst hrcv
  have L9' : LinkB W8 b cap (.slice (some ⟨g, 0, none⟩) R rc) f' (rcv + 1 + q.length) (rcv + 1) hi := by rw [← hrr]; exact L9
  have TT := B7.out.grown GG (.inr (.inl (by omega))) (by omega) (Nat.le_of_lt hbl)
  refine bodyPost_ret (v := .tuple #[.agg #[.int .i64 ta, .int .i64 tb, .int .i64 tc, .int .i64 td, .int .i64 te, .slice va zs.length vc], .int .i64 0]) ?_ rfl ⟨_, rfl, V7.out.kept GG (S7h.out.not_row V7.out (by decide)), ⟨hbB, Nat.le_trans hBw TT.1.size, f', R, _, _, L9', R7.out.kept GG (.inr (fun e => absurd (show g = w.heap.size + 1 from Option.some.inj e) (by omega))), ⟨by simp at o3; omega, o4, .inl (by rw [← hf']; exact Nat.mod_lt _ hR)⟩, fun i m' hm => (M7.out i m' hm).other S7h.out GG⟩, TT, (ringB_of L9').trans HRG.out.symm⟩
  clear TT GG SS BB L9 L9' L8 R7 V7 M7 B7 S7h
  simp [results, Try.results14, x0, x1, x2, x3, x4, x5, go_sem]
end Go.Proofs.Ytgbgmmakiimbbaa
