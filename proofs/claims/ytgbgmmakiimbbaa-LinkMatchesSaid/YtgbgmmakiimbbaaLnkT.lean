/- Layer 18: what a change of a link leaves as it was: all but the link's block and its ring. -/
import Derived.Test.YtgbgmmakiimbbaaLnkD
namespace Go.Proofs.Ytgbgmmakiimbbaa
open Go.RowKit
set_option linter.unusedVariables false
/-- the block of a link's ring -/
def ringB (b : Nat) (w : World) : Option Nat := (w.cell? ⟨b, 1, none⟩).bind Value.ownBlock
theorem ringB_of {w : World} {b cap first s rcv hi : Nat} {rv : Value} (h : LinkB w b cap rv first s rcv hi) : ringB b w = rv.ownBlock := by
  obtain ⟨⟨c0, c1, c2⟩, c3, c4, c5⟩ := Six.cells h
  unfold ringB
  rw [c1]
  rfl
def Touch (b : Nat) (r : Option Nat) (w w' : World) : Prop := Below b w w' ∧ ∀ k, k < w.heap.size → k ≠ b → some k ≠ r → w'.heap[k]? = w.heap[k]?
theorem Touch.refl (b : Nat) (r : Option Nat) (w : World) : Touch b r w w := ⟨Below.refl _ _, fun _ _ _ _ => rfl⟩
theorem Touch.later {b : Nat} {r : Option Nat} {w w1 w2 : World} (h : Touch b r w w1) (k : Below w1.heap.size w1 w2) (hb : b ≤ w.heap.size) : Touch b r w w2 :=
  ⟨h.1.trans (k.mono (Nat.le_trans hb h.1.size)), fun j h1 h2 h3 => (k.block j (Nat.lt_of_lt_of_le h1 h.1.size)).trans (h.2 j h1 h2 h3)⟩
theorem Touch.of_below {b : Nat} {r : Option Nat} {w w1 : World} (k : Below w.heap.size w w1) (hb : b ≤ w.heap.size) : Touch b r w w1 := (Touch.refl b r w).later k hb
theorem Touch.grown {b g : Nat} {r : Option Nat} {w w1 w2 : World} (h : Touch b r w w1) (k : w1.grownBy w2 (some g)) (hg : some g = r ∨ w.heap.size ≤ g ∨ g = b) (hbg : b ≤ g) (hb : b ≤ w.heap.size) : Touch b r w w2 :=
  ⟨h.1.grown k (Nat.le_trans hb h.1.size) (fun j e => by have := Option.some.inj e; omega), fun j h1 h2 h3 => (k.block j (Nat.lt_of_lt_of_le h1 h.1.size) (fun e => by
    have e := Option.some.inj e
    subst e
    rcases hg with hg | hg | hg
    · exact h3 hg
    · omega
    · exact h2 hg)).trans (h.2 j h1 h2 h3)⟩
theorem Touch.set {b o : Nat} {r : Option Nat} {w w1 : World} {x : Value} (h : Touch b r w w1) (hb : b ≤ w.heap.size) : Touch b r w (w1.setCell ⟨b, o, none⟩ x) :=
  h.grown (grown_set w1 b o x) (.inr (.inr rfl)) (Nat.le_refl _) hb
theorem Touch.drew {b : Nat} {r : Option Nat} {w w1 : World} (h : Touch b r w w1) (hb : b ≤ w.heap.size) : Touch b r w w1.drew := h.later (Below.refl _ _).drew hb
/-- a row of the call's own that is another one than the link's ring -/
theorem Touch.row {b base size n : Nat} {r : Option Nat} {w w' : World} {e : TypeId} {v : Value} {xs : List Value} (h : Touch b r w w') (hr : w.ownsRow base e size v n xs) (hb : v.ownBlock ≠ some b) (hn : v.ownBlock = none ∨ v.ownBlock ≠ r) : w'.ownsRow base e size v n xs := by
  rcases hr.2 with ⟨rfl, h2⟩ | ⟨g, c, cur, rfl, k1, k2, k3⟩
  · exact ⟨hr.1, .inl ⟨rfl, h2⟩⟩
  · refine ⟨hr.1, .inr ⟨g, c, cur, rfl, k1, ?_, k3⟩⟩
    rcases hn with hn | hn
    · cases hn
    · rw [h.2 g ((hr.lt g rfl).2) (fun e => hb (by rw [e]; rfl)) hn]
      exact k2
end Go.Proofs.Ytgbgmmakiimbbaa
