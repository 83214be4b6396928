/- How worlds grow: small lemmas that every layer uses. -/
import Derived.Test.YtcnabebcckbfkaaDoorRows2
import Derived.OwnWalk
import Derived.LoopN
namespace Go.Proofs.YtcnabebcckbfkaaDoor
open Go.RowKit
theorem below_set {B b o : Nat} {w wr : World} {x : Value} (h : Below B w wr) (hb : B ≤ b) : Below B w (wr.setCell ⟨b, o, none⟩ x) := h.setCell hb _
theorem grown_below {w w' : World} (h : Below w.heap.size w w') (row : Option Nat) : w.grownBy w' row := ⟨h.os, h.tape, h.output, h.size, fun k hk _ => h.block k hk⟩
theorem grown_trans {u v w : World} {row : Option Nat} (h : u.grownBy v row) (k : v.grownBy w row) : u.grownBy w row :=
  ⟨k.os.trans h.os, k.tape.trans h.tape, k.output.trans h.output, Nat.le_trans h.size k.size, fun i hi hne => (k.block i (Nat.lt_of_lt_of_le hi h.size) hne).trans (h.block i hi hne)⟩
theorem grown_then {u v w : World} {row : Option Nat} (h : u.grownBy v row) (k : Below u.heap.size v w) : u.grownBy w row :=
  ⟨k.os.trans h.os, k.tape.trans h.tape, k.output.trans h.output, Nat.le_trans h.size k.size, fun i hi hne => (k.block i hi).trans (h.block i hi hne)⟩
theorem grown_set (w : World) (b o : Nat) (x : Value) : w.grownBy (w.setCell ⟨b, o, none⟩ x) (some b) :=
  ⟨rfl, rfl, rfl, by simp [World.setCell], fun k _ hk => Below.heap_setCell _ _ _ _ (fun e => hk (by simp [e]))⟩
theorem Grown.below {b : Nat} {w w' : World} (h : w.grownBy w' (some b)) (hb : b < w.heap.size) : Below b w w' :=
  (Below.refl b w).grown h (Nat.le_of_lt hb) (fun k e => by cases e; exact Nat.le_refl _)
/-- only a block of the call's own has changed -/
theorem Grown.own {B : Nat} {row : Option Nat} {w0 w w' : World} (h : w.grownBy w' row) (h0 : Below B w0 w) (hB : B ≤ w.heap.size) (hr : ∀ k, row = some k → B ≤ k) : Below B w0 w' := h0.grown h hB hr
theorem grown_cell {w w' : World} {b g o : Nat} (h : w.grownBy w' (some b)) (hg : g < w.heap.size) (hne : g ≠ b) : w'.cell? ⟨g, o, none⟩ = w.cell? ⟨g, o, none⟩ := by
  simp only [World.cell?, h.block g hg (fun e => hne (by cases e; rfl))]
theorem grown_frozen {w w' : World} {b g o : Nat} (h : w.grownBy w' (some b)) (hg : g < w.heap.size) (hne : g ≠ b) : w'.frozen? ⟨g, o, none⟩ = w.frozen? ⟨g, o, none⟩ := by
  simp only [World.frozen?, h.block g hg (fun e => hne (by cases e; rfl))]
theorem cell_step {b c : World} {a : Addr} {v : Value} (k : Below b.heap.size b c) (h : b.cell? a = some v) : c.cell? a = some v := (k.cell (World.block_lt_of_cell? _ _ h)).trans h
theorem frozen_step {b c : World} {a : Addr} {v : Value} (k : Below b.heap.size b c) (h : b.cell? a = some v) (hf : b.frozen? a = false) : c.frozen? a = false := (k.frozen (World.block_lt_of_cell? _ _ h)).trans hf
theorem row_kept {w w' : World} {b base size n : Nat} {e : TypeId} {v : Value} {xs : List Value} (h : w.ownsRow base e size v n xs) (hg : w.grownBy w' (some b)) (hb : b < base) : w'.ownsRow base e size v n xs :=
  h.kept hg (Or.inr fun e => by have := (h.lt b e).1; omega)
/-- a row that lies in another block -/
theorem row_other {w w' : World} {base size n : Nat} {row : Option Nat} {e : TypeId} {v : Value} {xs : List Value} (h : w.ownsRow base e size v n xs) (hg : w.grownBy w' row) (hr : ∀ k, row = some k → k < base) : w'.ownsRow base e size v n xs := by
  refine h.kept hg ?_
  cases row with
  | none => cases v.ownBlock <;> simp
  | some k => exact .inr fun e => by have := (h.lt k e).1; have := hr k rfl; omega
theorem own_below {base size n : Nat} {e : TypeId} {v : Value} {xs : List Value} {w w' : World} (h : w.ownsRow base e size v n xs) (hb : Below w.heap.size w w') : w'.ownsRow base e size v n xs :=
  h.kept (row := none) ⟨hb.os, hb.tape, hb.output, hb.size, fun k hk _ => hb.block k hk⟩ (by cases v.ownBlock <;> simp)
theorem own_value {base n : Nat} {e : TypeId} {v : Value} {xs : List Value} {w : World} {size : Nat} (h : w.ownsRow base e size v n xs) : ∃ a c, v = .slice a n c := by
  rcases h.2 with ⟨rfl, rfl⟩ | ⟨g, cap, cur, rfl, _⟩ <;> exact ⟨_, _, rfl⟩
theorem own_some {base n : Nat} {e : TypeId} {v : Value} {xs : List Value} {w : World} {size : Nat} (h : w.ownsRow base e size v n xs) (hn : 0 < n) : ∃ g c, v = .slice (some ⟨g, 0, none⟩) n c ∧ base ≤ g ∧ g < w.heap.size := by
  rcases h.2 with ⟨rfl, rfl⟩ | ⟨g, cap, cur, rfl, hb, hg, _⟩
  · omega
  · exact ⟨_, _, rfl, hb, lt_of_block hg⟩
theorem ints_value {q : IntKind} {n₀ : Nat} {w : World} {v : Value} {zs : List Int} (hv : IntsAt q n₀ w v zs) : ∃ a c, v = .slice a zs.length c := by
  rcases hv.form with ⟨rfl, rfl⟩ | ⟨b, off, cap, rfl, _⟩ <;> exact ⟨_, _, rfl⟩
theorem ints_own {q : IntKind} {w : World} {base : Nat} {e : TypeId} {v : Value} {zs : List Int} (h : w.ownsRow base e 1 v zs.length (zs.map (Value.int q))) : IntsAt q w.heap.size w v zs := IntsAt.of_owns rfl h
theorem IntsW.src {q : IntKind} {n₀ : Nat} {w : World} {v : Value} {zs : List Int} (h : IntsW q n₀ w v zs) :
    (v = .slice none 0 0 ∧ zs = []) ∨ ∃ ad c, v = .slice (some ad) zs.length c ∧ ∀ j u, (zs.map (Value.int q))[j]? = some u → w.cell? (ad.add j) = some u := by
  rcases h with ⟨rfl, a, c, rfl⟩ | h
  · exact .inr ⟨a, c, rfl, fun j u hj => by simp at hj⟩
  · obtain ⟨hl, ⟨rfl, hn⟩ | ⟨b, off, cap, rfl, hn, hb, hc⟩⟩ := h
    · exact .inl ⟨rfl, List.length_eq_zero_iff.1 hn⟩
    · exact .inr ⟨_, cap, rfl, fun j u hj => by rw [Go.WideShapes.add_plain]; exact hc j u hj⟩
theorem cells_two (w : World) (x y : Value) (e : TypeId) : (w.alloc (.cells #[x, y] e)).cell? ⟨w.heap.size, 0, none⟩ = some x ∧ (w.alloc (.cells #[x, y] e)).cell? ⟨w.heap.size, 1, none⟩ = some y := by
  have h1 : (w.alloc (.cells #[x, y] e)).heap[w.heap.size]? = some (.cells #[x, y] e) := (MapKept.heap_alloc w _).1
  constructor
  · simp only [World.cell?, h1]; simp
  · simp only [World.cell?, h1]; simp
/-- a new block's cells -/
theorem cell_new (w : World) (cs : Array Value) (e : TypeId) (j : Nat) : (w.alloc (.cells cs e)).cell? ⟨w.heap.size, j, none⟩ = cs[j]? := by
  have h1 : (w.alloc (.cells cs e)).heap[w.heap.size]? = some (.cells cs e) := (MapKept.heap_alloc w _).1
  simp only [World.cell?, h1]; simp
theorem stored2 {w : World} {B : Nat} {x0 x1 : Value} (v0 v1 : Value) (r0 : w.cell? ⟨B, 0, none⟩ = some x0) (r1 : w.cell? ⟨B, 1, none⟩ = some x1) (f0 : w.frozen? ⟨B, 0, none⟩ = false) (f1 : w.frozen? ⟨B, 1, none⟩ = false) :
    ((w.setCell ⟨B, 0, none⟩ v0).setCell ⟨B, 1, none⟩ v1).cell? ⟨B, 0, none⟩ = some v0 ∧ ((w.setCell ⟨B, 0, none⟩ v0).setCell ⟨B, 1, none⟩ v1).cell? ⟨B, 1, none⟩ = some v1 ∧
    ((w.setCell ⟨B, 0, none⟩ v0).setCell ⟨B, 1, none⟩ v1).frozen? ⟨B, 0, none⟩ = false ∧ ((w.setCell ⟨B, 0, none⟩ v0).setCell ⟨B, 1, none⟩ v1).frozen? ⟨B, 1, none⟩ = false ∧ Below B w ((w.setCell ⟨B, 0, none⟩ v0).setCell ⟨B, 1, none⟩ v1) := by
  refine ⟨?_, ?_, ?_, ?_, below_set (below_set (Below.refl _ _) (Nat.le_refl _)) (Nat.le_refl _)⟩
  · rw [World.cell?_setCell_other _ _ _ _ (by simp)]; exact World.cell?_setCell_same _ _ _ r0
  · refine World.cell?_setCell_same _ _ _ (u := x1) ?_
    rw [World.cell?_setCell_other _ _ _ _ (by simp)]; exact r1
  · rw [World.frozen?_setCell, World.frozen?_setCell]; exact f0
  · rw [World.frozen?_setCell, World.frozen?_setCell]; exact f1
theorem ret_u {a b : Int} (h : a = b) : Ending.returned (.int .u64 a) = .returned (.int .u64 b) := by rw [h]
end Go.Proofs.YtcnabebcckbfkaaDoor
