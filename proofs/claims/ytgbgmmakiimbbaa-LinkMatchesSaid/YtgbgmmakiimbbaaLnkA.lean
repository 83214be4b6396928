/- Layer 18: the block of a link, and what only reads it. -/
import Derived.Test.YtgbgmmakiimbbaaGen
import Derived.Test.YtgbgmmakiimbbaaAgg
import Derived.Test.YtgbgmmakiimbbaaAppL
import Derived.Test.YtgbgmmakiimbbaaAppR
import Derived.BigQuiet
import Derived.Deep.Cut
import Derived.IntWalk
import Derived.OneCell
import Derived.Test.YtgbgmmakiimbbaaProg
import Derived.RegionTactic
import Derived.Deep.RegionHeld3
import Derived.Deep.QuietTactic
namespace Go.Proofs.Ytgbgmmakiimbbaa
open Go.RowKit
set_option linter.unusedVariables false
/-- a block of six cells -/
def Six (w : World) (b : Nat) (t : TypeId) (x0 x1 x2 x3 x4 x5 : Value) : Prop := w.heap[b]? = some (.cells #[x0, x1, x2, x3, x4, x5] t (0, 0))
section
variable {w w' : World} {b : Nat} {t : TypeId} {x0 x1 x2 x3 x4 x5 : Value}
theorem Six.lt (h : Six w b t x0 x1 x2 x3 x4 x5) : b < w.heap.size := (Array.getElem?_eq_some_iff.1 h).1
theorem Six.cells (h : Six w b t x0 x1 x2 x3 x4 x5) : (w.cell? ⟨b, 0, none⟩ = some x0 ∧ w.cell? ⟨b, 1, none⟩ = some x1 ∧ w.cell? ⟨b, 2, none⟩ = some x2) ∧ (w.cell? ⟨b, 3, none⟩ = some x3 ∧ w.cell? ⟨b, 4, none⟩ = some x4 ∧ w.cell? ⟨b, 5, none⟩ = some x5) := by
  have e : w.heap[b]? = _ := h
  exact ⟨⟨by simp [World.cell?, e], by simp [World.cell?, e], by simp [World.cell?, e]⟩, by simp [World.cell?, e], by simp [World.cell?, e], by simp [World.cell?, e]⟩
theorem Six.frozen (h : Six w b t x0 x1 x2 x3 x4 x5) (j : Nat) : w.frozen? ⟨b, j, none⟩ = false := by
  simp [World.frozen?, show w.heap[b]? = _ from h]
theorem Six.kept {row : Option Nat} (h : Six w b t x0 x1 x2 x3 x4 x5) (hg : w.grownBy w' row) (hne : some b ≠ row) : Six w' b t x0 x1 x2 x3 x4 x5 := (hg.block b h.lt hne).trans h
theorem Six.later (h : Six w b t x0 x1 x2 x3 x4 x5) (hb : Below w.heap.size w w') : Six w' b t x0 x1 x2 x3 x4 x5 := (hb.block b h.lt).trans h
theorem Six.set_heap (h : Six w b t x0 x1 x2 x3 x4 x5) (j : Nat) (v : Value) : (w.setCell ⟨b, j, none⟩ v).heap[b]? = some (.cells (#[x0, x1, x2, x3, x4, x5].setIfInBounds j v) t (0, 0)) := by
  obtain ⟨hlt, hk⟩ := Array.getElem?_eq_some_iff.1 h
  show (w.heap.modify b _)[b]? = _
  rw [Array.getElem?_eq_getElem (by rw [Array.size_modify]; exact hlt), Array.getElem_modify_self, hk]
  rfl
theorem Six.set0 (h : Six w b t x0 x1 x2 x3 x4 x5) (v : Value) : Six (w.setCell ⟨b, 0, none⟩ v) b t v x1 x2 x3 x4 x5 := h.set_heap 0 v
theorem Six.set1 (h : Six w b t x0 x1 x2 x3 x4 x5) (v : Value) : Six (w.setCell ⟨b, 1, none⟩ v) b t x0 v x2 x3 x4 x5 := h.set_heap 1 v
theorem Six.set2 (h : Six w b t x0 x1 x2 x3 x4 x5) (v : Value) : Six (w.setCell ⟨b, 2, none⟩ v) b t x0 x1 v x3 x4 x5 := h.set_heap 2 v
theorem Six.set3 (h : Six w b t x0 x1 x2 x3 x4 x5) (v : Value) : Six (w.setCell ⟨b, 3, none⟩ v) b t x0 x1 x2 v x4 x5 := h.set_heap 3 v
theorem Six.set4 (h : Six w b t x0 x1 x2 x3 x4 x5) (v : Value) : Six (w.setCell ⟨b, 4, none⟩ v) b t x0 x1 x2 x3 v x5 := h.set_heap 4 v
theorem Six.set5 (h : Six w b t x0 x1 x2 x3 x4 x5) (v : Value) : Six (w.setCell ⟨b, 5, none⟩ v) b t x0 x1 x2 x3 x4 v := h.set_heap 5 v
theorem Six.store (h : Six w b t x0 x1 x2 x3 x4 x5) (y0 y1 y2 y3 y4 y5 : Value) : Six ((((((w.setCell ⟨b, 0, none⟩ y0).setCell ⟨b, 1, none⟩ y1).setCell ⟨b, 2, none⟩ y2).setCell ⟨b, 3, none⟩ y3).setCell ⟨b, 4, none⟩ y4).setCell ⟨b, 5, none⟩ y5) b t y0 y1 y2 y3 y4 y5 :=
  (((((h.set0 y0).set1 y1).set2 y2).set3 y3).set4 y4).set5 y5
theorem below_six (w : World) (b : Nat) (y0 y1 y2 y3 y4 y5 : Value) : Below b w ((((((w.setCell ⟨b, 0, none⟩ y0).setCell ⟨b, 1, none⟩ y1).setCell ⟨b, 2, none⟩ y2).setCell ⟨b, 3, none⟩ y3).setCell ⟨b, 4, none⟩ y4).setCell ⟨b, 5, none⟩ y5) :=
  below_set (below_set (below_set (below_set (below_set (below_set (Below.refl _ _) (Nat.le_refl _)) (Nat.le_refl _)) (Nat.le_refl _)) (Nat.le_refl _)) (Nat.le_refl _)) (Nat.le_refl _)
theorem row_set {w : World} {base size n b o : Nat} {e : TypeId} {v : Value} {xs : List Value} (h : w.ownsRow base e size v n xs) (hb : b < base) (x : Value) : (w.setCell ⟨b, o, none⟩ x).ownsRow base e size v n xs :=
  ownsRow_setCell_other h (fun e => by have := (h.lt b e).1; omega) x
theorem row_six {w : World} {base size n b : Nat} {e : TypeId} {v : Value} {xs : List Value} (h : w.ownsRow base e size v n xs) (hb : b < base) (y0 y1 y2 y3 y4 y5 : Value) :
    ((((((w.setCell ⟨b, 0, none⟩ y0).setCell ⟨b, 1, none⟩ y1).setCell ⟨b, 2, none⟩ y2).setCell ⟨b, 3, none⟩ y3).setCell ⟨b, 4, none⟩ y4).setCell ⟨b, 5, none⟩ y5).ownsRow base e size v n xs :=
  row_set (row_set (row_set (row_set (row_set (row_set h hb _) hb _) hb _) hb _) hb _) hb _
end
/-- a tag -/
structure Tg where
  (a b c d e : Int)
def Tg.cells (t : Tg) : List Value := [.int .i64 t.a, .int .i64 t.b, .int .i64 t.c, .int .i64 t.d, .int .i64 t.e]
def encT (t : Tg) : Value := .agg #[.int .i64 t.a, .int .i64 t.b, .int .i64 t.c, .int .i64 t.d, .int .i64 t.e]
def encM (t : Tg) (v : Value) : Value := .agg #[.int .i64 t.a, .int .i64 t.b, .int .i64 t.c, .int .i64 t.d, .int .i64 t.e, v]
/-- the block of a link -/
def LinkB (w : World) (b : Nat) (cap : Nat) (rv : Value) (first sends rcv hi : Nat) : Prop := Six w b 65 (.int .i64 cap) rv (.int .i64 first) (.int .i64 sends) (.int .i64 rcv) (.int .i64 hi)
theorem new_any (cap : Int) (w : World) (h0 : 1 ≤ cap) (h1 : cap ≤ 1048576) :
    Calls Try.prog 8 #[.int .i64 cap] w fun e w' => e = .returned (.pointer (some ⟨w.heap.size, 0, none⟩)) ∧ LinkB w' w.heap.size cap.toNat (.slice none 0 0) 0 0 0 0 ∧ Below w.heap.size w w' := by
  obtain ⟨c, rfl⟩ : ∃ c : Nat, cap = c := ⟨cap.toNat, by omega⟩
  have e1 : decide ((c : Int) < 1) = false := by simp; omega
  have e2 : decide ((1048576 : Int) < c) = false := by simp; omega
  go_enter Try.func8, Try.ntmps8
  go_wp2
  go_ret
  exact ⟨rfl, (MapKept.heap_alloc _ _).1, (Below.refl _ _).alloc (Nat.le_refl _) _⟩
theorem new_none (cap : Int) (w : World) (h : cap < 1 ∨ 1048576 < cap) (hc : -9223372036854775808 ≤ cap ∧ cap ≤ 9223372036854775807) :
    Calls Try.prog 8 #[.int .i64 cap] w fun e w' => e = .returned (.pointer none) ∧ w' = w := by
  by_cases h1 : cap < 1
  · have e1 : decide (cap < 1) = true := by simpa using h1
    go_enter Try.func8, Try.ntmps8
    go_wp2
    go_ret
    exact ⟨rfl, rfl⟩
  · have e1 : decide (cap < 1) = false := by simpa using h1
    have e2 : decide (1048576 < cap) = true := by simp; omega
    go_enter Try.func8, Try.ntmps8
    go_wp2
    go_ret
    exact ⟨rfl, rfl⟩
/-- reading alone leaves the world as it was, but for what the order drew -/
theorem len_any (b : Nat) (cap : Nat) (rv : Value) (first n rcv hi : Nat) (hb : rcv + n ≤ 4611686018427387904) (w : World) (h : LinkB w b cap rv first (rcv + n) rcv hi) :
    Calls Try.prog 21 #[.pointer (some ⟨b, 0, none⟩)] w fun e w' => e = .returned (.int .i64 n) ∧ w' = w.drew := by
  obtain ⟨⟨c0, c1, c2⟩, c3, c4, c5⟩ := Six.cells h
  have wk : IntKind.i64.wrap (((rcv + n : Nat) : Int) - rcv) = n := (IntWalk.i64_in _ (by omega)).trans (by omega)
  go_enter Try.func21, Try.ntmps21
  generalize rcv + n = s at *
  go_wp2_with fail
  go_region
  go_wp2
  go_ret
  exact ⟨by first | rfl | (simp; omega), rfl⟩
theorem len_nil (w : World) : Calls Try.prog 21 #[.pointer none] w fun e w' => e = .returned (.int .i64 0) ∧ w' = w := by
  go_enter Try.func21, Try.ntmps21
  go_wp2
  go_ret
  exact ⟨rfl, rfl⟩
theorem cap_any (b : Nat) (cap : Nat) (rv : Value) (first s rcv hi : Nat) (w : World) (h : LinkB w b cap rv first s rcv hi) :
    Calls Try.prog 27 #[.pointer (some ⟨b, 0, none⟩)] w fun e w' => e = .returned (.int .i64 cap) ∧ Below w.heap.size w w' := by
  obtain ⟨⟨c0, c1, c2⟩, c3, c4, c5⟩ := Six.cells h
  go_enter Try.func27, Try.ntmps27
  go_wp2_with fail
  go_ret
  exact ⟨rfl, by first | exact Below.refl _ _ | exact (Below.refl _ _).drew⟩
theorem cap_nil (w : World) : Calls Try.prog 27 #[.pointer none] w fun e w' => e = .returned (.int .i64 0) ∧ Below w.heap.size w w' := by
  go_enter Try.func27, Try.ntmps27
  go_wp2
  go_ret
  exact ⟨rfl, Below.refl _ _⟩
theorem peak_any (b : Nat) (cap : Nat) (rv : Value) (first s rcv hi : Nat) (w : World) (h : LinkB w b cap rv first s rcv hi) :
    Calls Try.prog 22 #[.pointer (some ⟨b, 0, none⟩)] w fun e w' => e = .returned (.int .i64 hi) ∧ Below w.heap.size w w' := by
  obtain ⟨⟨c0, c1, c2⟩, c3, c4, c5⟩ := Six.cells h
  go_enter Try.func22, Try.ntmps22
  go_wp2_with fail
  go_ret
  exact ⟨rfl, by first | exact Below.refl _ _ | exact (Below.refl _ _).drew⟩
theorem peak_nil (w : World) : Calls Try.prog 22 #[.pointer none] w fun e w' => e = .returned (.int .i64 0) ∧ Below w.heap.size w w' := by
  go_enter Try.func22, Try.ntmps22
  go_wp2
  go_ret
  exact ⟨rfl, Below.refl _ _⟩
theorem counts_any (b : Nat) (cap : Nat) (rv : Value) (first s rcv hi : Nat) (w : World) (h : LinkB w b cap rv first s rcv hi) :
    Calls Try.prog 25 #[.pointer (some ⟨b, 0, none⟩)] w fun e w' => e = .returned (.tuple #[.int .i64 s, .int .i64 rcv]) ∧ Below w.heap.size w w' := by
  obtain ⟨⟨c0, c1, c2⟩, c3, c4, c5⟩ := Six.cells h
  go_enter Try.func25, Try.ntmps25
  go_wp2_with fail
  go_region
  go_wp2
  go_ret2
  exact ⟨rfl, by first | exact Below.refl _ _ | exact (Below.refl _ _).drew⟩
theorem counts_nil (w : World) : Calls Try.prog 25 #[.pointer none] w fun e w' => e = .returned (.tuple #[.int .i64 0, .int .i64 0]) ∧ Below w.heap.size w w' := by
  go_enter Try.func25, Try.ntmps25
  go_wp2
  go_ret2
  exact ⟨rfl, Below.refl _ _⟩
/-- where a message lies in the ring -/
theorem place_any (b : Nat) (cap : Nat) (ra : Option Addr) (R rc : Nat) (first s rcv hi i : Nat) (hR : 0 < R) (hi0 : first + i ≤ 4611686018427387904) (w : World) (h : LinkB w b cap (.slice ra R rc) first s rcv hi) :
    Calls Try.prog 31 #[.pointer (some ⟨b, 0, none⟩), .int .i64 i] w fun e w' => e = .returned (.int .i64 (((first + i) % R : Nat) : Int)) ∧ w' = w.drew := by
  obtain ⟨⟨c0, c1, c2⟩, c3, c4, c5⟩ := Six.cells h
  have wk : IntKind.i64.wrap ((first : Int) + i) = ((first + i : Nat) : Int) := (IntWalk.i64_in _ (by omega)).trans (by omega)
  have wk2 : (first : Int) + i = ((first + i : Nat) : Int) := by omega
  have ht : ((first + i : Nat) : Int).tmod R = (((first + i) % R : Nat) : Int) := by rw [Int.tmod_eq_emod_of_nonneg (by omega)]; exact (Int.natCast_emod _ _).symm
  have wr : IntKind.i64.wrap (((first + i) % R : Nat) : Int) = (((first + i) % R : Nat) : Int) := IntWalk.i64_in _ (by have := Nat.mod_lt (first + i) hR; have := Nat.mod_le (first + i) R; omega)
  have hz : ((R : Int) == 0) = false := by simp; omega
  have hz2 : (R : Int) ≠ 0 := by omega
  generalize first + i = f at *
  go_enter Try.func31, Try.ntmps31
  go_wp2_with fail
  go_region
  go_wp2
  go_ret
  exact ⟨by first | rfl | simp, rfl⟩
end Go.Proofs.Ytgbgmmakiimbbaa
