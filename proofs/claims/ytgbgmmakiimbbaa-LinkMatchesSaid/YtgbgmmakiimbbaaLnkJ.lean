/- Layer 18: the reference's state, and what only reads it. -/
import Derived.Test.YtgbgmmakiimbbaaLnkI
import Derived.Test.YtgbgmmakiimbbaaLnkF
import Derived.Test.YtgbgmmakiimbbaaVecF
namespace Go.Proofs.Ytgbgmmakiimbbaa
open Go.RowKit
set_option linter.unusedVariables false
/-- a block of four cells -/
def Four (w : World) (b : Nat) (t : TypeId) (x0 x1 x2 x3 : Value) : Prop := w.heap[b]? = some (.cells #[x0, x1, x2, x3] t (0, 0))
theorem Four.new (w : World) (t : TypeId) (x0 x1 x2 x3 : Value) : Four (w.alloc (.cells #[x0, x1, x2, x3] t)) w.heap.size t x0 x1 x2 x3 := (MapKept.heap_alloc _ _).1
theorem Four.cells {w : World} {b : Nat} {t : TypeId} {x0 x1 x2 x3 : Value} (h : Four w b t x0 x1 x2 x3) : w.cell? ⟨b, 0, none⟩ = some x0 ∧ w.cell? ⟨b, 1, none⟩ = some x1 ∧ w.cell? ⟨b, 2, none⟩ = some x2 ∧ w.cell? ⟨b, 3, none⟩ = some x3 := by
  have e : w.heap[b]? = _ := h
  exact ⟨by simp [World.cell?, e], by simp [World.cell?, e], by simp [World.cell?, e], by simp [World.cell?, e]⟩
/-- the reference's link as a value -/
def encL (cap : Int) (sv : Value) (rcv pk : Nat) : Value := .agg #[.int .i64 cap, sv, .int .i64 rcv, .int .i64 pk]
theorem refLen_any (cap : Int) (a : Option Addr) (n c rcv pk : Nat) (hn : n ≤ 4611686018427387904) (hr : rcv ≤ 4611686018427387904) (w : World) :
    Calls Try.prog 28 #[encL cap (.slice a n c) rcv pk] w fun e w' => e = .returned (.int .i64 ((n : Int) - rcv)) ∧ Below w.heap.size w w' := by
  unfold encL
  have wk : IntKind.i64.wrap ((n : Int) - rcv) = (n : Int) - rcv := IntWalk.i64_in _ (by omega)
  obtain ⟨c0, c1, c2, c3⟩ := (Four.new w 29 (.int .i64 cap) (.slice a n c) (.int .i64 rcv) (.int .i64 pk)).cells
  go_enter Try.func28, Try.ntmps28
  go_wp2
  go_ret
  exact ⟨rfl, (Below.refl _ _).alloc (Nat.le_refl _) _⟩
/-- two messages are the same -/
def sameM (a b : Ms) : Bool := tagB a.t b.t && sameL a.zs b.zs
set_option maxHeartbeats 1000000 in
theorem refSameM_any (s t : Tg) (v u : Value) (zs ys : List Int) (hm : zs.length * 8 ≤ 140737488351232) (hm2 : ys.length * 8 ≤ 140737488351232) (w : World) (hv : IntsW .i64 w.heap.size w v zs) (hu : IntsW .i64 w.heap.size w u ys) :
    Calls Try.prog 16 #[encM s v, encM t u] w fun e w' => e = .returned (.bool (sameM ⟨s, zs⟩ ⟨t, ys⟩)) ∧ Below w.heap.size w w' := by
  obtain ⟨a, c, rfl⟩ := hv.value
  obtain ⟨a', c', rfl⟩ := hu.value
  obtain ⟨sa, sb, sc, sd, se⟩ := s
  obtain ⟨ta, tb, tc, td, te⟩ := t
  unfold encM sameM tagB Tg.xs
  dsimp only
  have bA := (Below.refl w.heap.size w).alloc (Nat.le_refl _) (.cells #[.int .i64 sa, .int .i64 sb, .int .i64 sc, .int .i64 sd, .int .i64 se, .slice a zs.length c] 34)
  have bB := bA.alloc bA.size (.cells #[.int .i64 ta, .int .i64 tb, .int .i64 tc, .int .i64 td, .int .i64 te, .slice a' ys.length c'] 34)
  have s1 := (Six.new w 34 (.int .i64 sa) (.int .i64 sb) (.int .i64 sc) (.int .i64 sd) (.int .i64 se) (.slice a zs.length c)).later ((Below.refl _ _).alloc (Nat.le_refl _) (.cells #[.int .i64 ta, .int .i64 tb, .int .i64 tc, .int .i64 td, .int .i64 te, .slice a' ys.length c'] 34))
  have s2 := Six.new (w.alloc (.cells #[.int .i64 sa, .int .i64 sb, .int .i64 sc, .int .i64 sd, .int .i64 se, .slice a zs.length c] 34)) 34 (.int .i64 ta) (.int .i64 tb) (.int .i64 tc) (.int .i64 td) (.int .i64 te) (.slice a' ys.length c')
  rw [World.size_alloc] at s2
  obtain ⟨⟨c0, c1, c2⟩, c3, c4, c5⟩ := s1.cells
  obtain ⟨⟨d0, d1, d2⟩, d3, d4, d5⟩ := s2.cells
  have heq := fun W => eql_tag sa sb sc sd se ta tb tc td te W
  have HS := Lib.hid (refSame_w (.slice a zs.length c) (.slice a' ys.length c') zs ys (by omega) (by omega) _ ((hv.below bB).grow bB.size) ((hu.below bB).grow bB.size))
  clear s1 s2 hv hu
  cases hb : tagXs sa sb sc sd se == tagXs ta tb tc td te with
  | true =>
    simp only [hb] at heq
    go_enter Try.func16, Try.ntmps16
    go_wp2_with fail
    refine HS.out.mono ?_
    rintro e w5 ⟨rfl, b5⟩
    have B5 := Lib.hid (bB.trans (b5.mono bB.size))
    clear b5
    go_wp2_with fail
    go_ret
    exact ⟨by simp, B5.out⟩
  | false =>
    simp only [hb] at heq
    go_enter Try.func16, Try.ntmps16
    go_wp2_with fail
    go_ret
    exact ⟨by simp, bB⟩
end Go.Proofs.Ytgbgmmakiimbbaa
