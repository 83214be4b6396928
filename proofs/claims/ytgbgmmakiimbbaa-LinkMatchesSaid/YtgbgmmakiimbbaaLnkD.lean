/- Layer 18: Peek. -/
import Derived.Test.YtgbgmmakiimbbaaLnkC
namespace Go.Proofs.Ytgbgmmakiimbbaa
open Go.RowKit
set_option linter.unusedVariables false
def headT : List Ms → Tg
  | [] => ⟨0, 0, 0, 0, 0⟩
  | m :: _ => m.t
def someB (q : List Ms) : Bool := !q.isEmpty
/-- a block of five cells -/
def Five (w : World) (b : Nat) (t : TypeId) (x0 x1 x2 x3 x4 : Value) : Prop := w.heap[b]? = some (.cells #[x0, x1, x2, x3, x4] t (0, 0))
section
variable {w w' : World} {b : Nat} {t : TypeId} {x0 x1 x2 x3 x4 : Value}
theorem Five.lt (h : Five w b t x0 x1 x2 x3 x4) : b < w.heap.size := (Array.getElem?_eq_some_iff.1 h).1
theorem Five.cells (h : Five w b t x0 x1 x2 x3 x4) : w.cell? ⟨b, 0, none⟩ = some x0 ∧ w.cell? ⟨b, 1, none⟩ = some x1 ∧ w.cell? ⟨b, 2, none⟩ = some x2 ∧ w.cell? ⟨b, 3, none⟩ = some x3 ∧ w.cell? ⟨b, 4, none⟩ = some x4 := by
  have e : w.heap[b]? = _ := h
  exact ⟨by simp [World.cell?, e], by simp [World.cell?, e], by simp [World.cell?, e], by simp [World.cell?, e], by simp [World.cell?, e]⟩
theorem Five.frozen (h : Five w b t x0 x1 x2 x3 x4) (j : Nat) : w.frozen? ⟨b, j, none⟩ = false := by
  simp [World.frozen?, show w.heap[b]? = _ from h]
theorem Five.later (h : Five w b t x0 x1 x2 x3 x4) (hb : Below w.heap.size w w') : Five w' b t x0 x1 x2 x3 x4 := (hb.block b h.lt).trans h
theorem Five.set_heap (h : Five w b t x0 x1 x2 x3 x4) (j : Nat) (v : Value) : (w.setCell ⟨b, j, none⟩ v).heap[b]? = some (.cells (#[x0, x1, x2, x3, x4].setIfInBounds j v) t (0, 0)) := by
  obtain ⟨hlt, hk⟩ := Array.getElem?_eq_some_iff.1 h
  show (w.heap.modify b _)[b]? = _
  rw [Array.getElem?_eq_getElem (by rw [Array.size_modify]; exact hlt), Array.getElem_modify_self, hk]
  rfl
theorem Five.store (h : Five w b t x0 x1 x2 x3 x4) (y0 y1 y2 y3 y4 : Value) : Five (((((w.setCell ⟨b, 0, none⟩ y0).setCell ⟨b, 1, none⟩ y1).setCell ⟨b, 2, none⟩ y2).setCell ⟨b, 3, none⟩ y3).setCell ⟨b, 4, none⟩ y4) b t y0 y1 y2 y3 y4 := by
  have s0 : Five _ b t y0 x1 x2 x3 x4 := h.set_heap 0 y0
  have s1 : Five _ b t y0 y1 x2 x3 x4 := s0.set_heap 1 y1
  have s2 : Five _ b t y0 y1 y2 x3 x4 := s1.set_heap 2 y2
  have s3 : Five _ b t y0 y1 y2 y3 x4 := s2.set_heap 3 y3
  exact s3.set_heap 4 y4
theorem below_five (w : World) (b : Nat) (y0 y1 y2 y3 y4 : Value) : Below b w (((((w.setCell ⟨b, 0, none⟩ y0).setCell ⟨b, 1, none⟩ y1).setCell ⟨b, 2, none⟩ y2).setCell ⟨b, 3, none⟩ y3).setCell ⟨b, 4, none⟩ y4) :=
  below_set (below_set (below_set (below_set (below_set (Below.refl _ _) (Nat.le_refl _)) (Nat.le_refl _)) (Nat.le_refl _)) (Nat.le_refl _)) (Nat.le_refl _)
end
set_option maxHeartbeats 1000000 in
theorem peek_any {B : Nat} (b cap rcv hi : Nat) (q : List Ms) (w : World) (h : LinkAt b B cap q rcv hi w) (hk : LinkOk cap q rcv hi) :
    Calls Try.prog 26 #[.pointer (some ⟨b, 0, none⟩)] w fun e w' => e = .returned (.tuple #[encT (headT q), .bool (someB q)]) ∧ Below w.heap.size w w' := by
  have bA := (Below.refl w.heap.size w).alloc (Nat.le_refl _) (.cells #[.int .i64 0, .int .i64 0, .int .i64 0, .int .i64 0, .int .i64 0] 31)
  have hA := h.later bA
  have hres : Five (w.alloc (.cells #[.int .i64 0, .int .i64 0, .int .i64 0, .int .i64 0, .int .i64 0] 31)) w.heap.size 31 (.int .i64 0) (.int .i64 0) (.int .i64 0) (.int .i64 0) (.int .i64 0) := (MapKept.heap_alloc _ _).1
  have hL := Lib.hid (linkLen_any b cap rcv hi q _ hA hk)
  have hbl := h.lt
  clear h
  go_enter Try.func26, Try.ntmps26
  go_wp2_with fail
  generalize w.alloc (.cells #[.int .i64 0, .int .i64 0, .int .i64 0, .int .i64 0, .int .i64 0] 31) = W at *
  refine hL.out.mono ?_
  rintro e w1 ⟨rfl, rfl⟩
  have b1 : Below W.heap.size W W.drew := (Below.refl _ _).drew
  have r1 := hres.later b1
  have h1 := hA.later b1
  have B1 := Lib.hid (below_step bA b1)
  have f0 := r1.frozen 0
  have f1 := r1.frozen 1
  have f2 := r1.frozen 2
  have f3 := r1.frozen 3
  have f4 := r1.frozen 4
  obtain ⟨d0, d1, d2, d3, d4⟩ := r1.cells
  clear b1 bA hres hA hL
  generalize W.drew = W1 at *
  cases q with
  | nil =>
    clear h1
    go_wp2_with fail
    refine bodyPost_ret (v := .tuple #[encT ⟨0, 0, 0, 0, 0⟩, .bool false]) ?_ rfl ⟨rfl, B1.out.trans (below_five _ _ _ _ _ _ _)⟩
    obtain ⟨k0, k1, k2, k3, k4⟩ := (r1.store (.int .i64 0) (.int .i64 0) (.int .i64 0) (.int .i64 0) (.int .i64 0)).cells
    generalize ((((W1.setCell ⟨w.heap.size, 0, none⟩ (.int .i64 0)).setCell ⟨w.heap.size, 1, none⟩ (.int .i64 0)).setCell ⟨w.heap.size, 2, none⟩ (.int .i64 0)).setCell ⟨w.heap.size, 3, none⟩ (.int .i64 0)).setCell ⟨w.heap.size, 4, none⟩ (.int .i64 0) = W9 at *
    simp [results, Try.results26, k0, k1, k2, k3, k4, encT, go_sem]
  | cons m q =>
    obtain ⟨hbB, hBw, first, R, rv, cs, o1, o2, ⟨o3, o4, o5⟩, o6⟩ := h1
    have hR : 0 < R := by simp at o3; omega
    have hfR : first < R := by omega
    obtain ⟨g, rc, rfl, hgb, hgw⟩ := own_some o2 hR
    have o60 := o6 0 m rfl
    rw [show (first + 0) % R = first from Nat.mod_eq_of_lt hfR] at o60
    obtain ⟨v, ⟨m0, m1, m2, m3, m4, m5⟩, _⟩ := o60
    have x0 := (o2.cellAt (first * 6) (by omega)).trans m0
    have x1 := (o2.cellAt (first * 6 + 1) (by omega)).trans m1
    have x2 := (o2.cellAt (first * 6 + 2) (by omega)).trans m2
    have x3 := (o2.cellAt (first * 6 + 3) (by omega)).trans m3
    have x4 := (o2.cellAt (first * 6 + 4) (by omega)).trans m4
    obtain ⟨⟨c0, c1, c2⟩, c3, c4, c5⟩ := Six.cells o1
    have i0 : (0 : Int) ≤ (first : Int) := by omega
    have i1 : (first : Int) < (R : Int) := by omega
    have hz : (((m :: q).length : Int) == 0) = false := by simp; omega
    have hz2 : ¬ ((m :: q).length : Int) = 0 := by simp; omega
    have O1 := Lib.hid o1
    clear o1 o2 o3 o4 o6 m0 m1 m2 m3 m4 m5 c0 c3 c4 c5
    generalize (m :: q).length = n at *
    obtain ⟨⟨ta, tb, tc, td, te⟩, zs⟩ := m
    dsimp only at x0 x1 x2 x3 x4
    go_wp2_with fail
    go_region
    go_wp2
    refine bodyPost_ret (v := .tuple #[encT ⟨ta, tb, tc, td, te⟩, .bool true]) ?_ rfl ⟨rfl, (B1.out.trans (below_five _ _ _ _ _ _ _)).drew⟩
    have r9 := (r1.store (.int .i64 ta) (.int .i64 tb) (.int .i64 tc) (.int .i64 td) (.int .i64 te)).later (Below.refl _ _).drew
    obtain ⟨k0, k1, k2, k3, k4⟩ := r9.cells
    clear r9
    generalize (((((W1.setCell ⟨w.heap.size, 0, none⟩ (.int .i64 ta)).setCell ⟨w.heap.size, 1, none⟩ (.int .i64 tb)).setCell ⟨w.heap.size, 2, none⟩ (.int .i64 tc)).setCell ⟨w.heap.size, 3, none⟩ (.int .i64 td)).setCell ⟨w.heap.size, 4, none⟩ (.int .i64 te)).drew = W9 at *
    simp [results, Try.results26, k0, k1, k2, k3, k4, encT, go_sem]
theorem peek_nil (w : World) : Calls Try.prog 26 #[.pointer none] w fun e w' => e = .returned (.tuple #[encT ⟨0, 0, 0, 0, 0⟩, .bool false]) ∧ Below w.heap.size w w' := by
  have bA := (Below.refl w.heap.size w).alloc (Nat.le_refl _) (.cells #[.int .i64 0, .int .i64 0, .int .i64 0, .int .i64 0, .int .i64 0] 31)
  have r1 : Five (w.alloc (.cells #[.int .i64 0, .int .i64 0, .int .i64 0, .int .i64 0, .int .i64 0] 31)) w.heap.size 31 (.int .i64 0) (.int .i64 0) (.int .i64 0) (.int .i64 0) (.int .i64 0) := (MapKept.heap_alloc _ _).1
  go_enter Try.func26, Try.ntmps26
  go_wp2_with fail
  generalize w.alloc (.cells #[.int .i64 0, .int .i64 0, .int .i64 0, .int .i64 0, .int .i64 0] 31) = W1 at *
  have B1 := Lib.hid bA
  have f0 := r1.frozen 0
  have f1 := r1.frozen 1
  have f2 := r1.frozen 2
  have f3 := r1.frozen 3
  have f4 := r1.frozen 4
  obtain ⟨d0, d1, d2, d3, d4⟩ := r1.cells
  clear bA
  refine (len_nil _).mono ?_
  rintro e w1 ⟨rfl, rfl⟩
  go_wp2_with fail
  refine bodyPost_ret (v := .tuple #[encT ⟨0, 0, 0, 0, 0⟩, .bool false]) ?_ rfl ⟨rfl, B1.out.trans (below_five _ _ _ _ _ _ _)⟩
  obtain ⟨k0, k1, k2, k3, k4⟩ := (r1.store (.int .i64 0) (.int .i64 0) (.int .i64 0) (.int .i64 0) (.int .i64 0)).cells
  generalize ((((w1.setCell ⟨w.heap.size, 0, none⟩ (.int .i64 0)).setCell ⟨w.heap.size, 1, none⟩ (.int .i64 0)).setCell ⟨w.heap.size, 2, none⟩ (.int .i64 0)).setCell ⟨w.heap.size, 3, none⟩ (.int .i64 0)).setCell ⟨w.heap.size, 4, none⟩ (.int .i64 0) = W9 at *
  simp [results, Try.results26, k0, k1, k2, k3, k4, encT, go_sem]
end Go.Proofs.Ytgbgmmakiimbbaa
