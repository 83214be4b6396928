/- The reference's Next: two rows that grow side by side. -/
import Derived.Test.YtmffgbmjomaehaaSgdQ
import Derived.Deep.AppendLies
namespace Go.Proofs.Ytmffgbmjomaehaa
open Go.RowKit
set_option linter.unusedVariables false
theorem append_one_lies {P : Program} {ops : Array Oper} {rest : List Oper} {o : Oper} {a : Act} {Q : Exit → Act → World → Prop} {W : World} {t e e' : TypeId} {z : Value} {size bytes base n g : Nat} {v : Value} {xs : List Value} {news : Array Value}
    (hE : Elem P t e z size bytes) (hgd : o.guard = none) (s x : Operand) (ho : o.op = .call { callee := .builtin .append, args := #[s, x], argTypes := #[t, t] })
    (hs : a.eval s = v) (hx : a.eval x = .slice (some ⟨g, 0, none⟩) 1 1) (hg : W.heap.size = g) (hown : W.ownsRow base e size v n xs)
    (hl : news.size = size) (h1 : ∀ u ∈ news.toList, u.oneCell' = true) (h63 : n + 1 ≤ maxLen) (hbytes : (n + 1) * bytes ≤ 140737488355328) (hbase : base ≤ W.heap.size)
    (h : ∀ b cap w', w'.ownsRow base e size (.slice (some ⟨b, 0, none⟩) (n + 1) cap) (n + 1) (xs ++ news.toList) → W.grownBy w' v.ownBlock → (v.ownBlock = some b ∨ W.heap.size < b) → wpList P ops Q rest (a.put o.dst (.slice (some ⟨b, 0, none⟩) (n + 1) cap)) w') : wpList P ops Q (o :: rest) a (W.alloc (.cells news e')) := by
  subst hg
  obtain ⟨i, hi, hz0, hz1, hz2⟩ := hE.hi
  refine wpList_append_lies _ hgd s x t ho base e i z size bytes hE.ht hi hz0 hz1 hz2 hE.hzs hE.hsz v n xs hs (hown.alloc _) ⟨W.heap.size, 0, none⟩ 1 1 news.toList hx (by simp [hl]) ?_ h1 (by omega) h63 hbytes (by simp; omega) (W.heap.size + 1) (by simp) ?_
  · intro j u hj
    rw [Go.WideShapes.add_plain]
    have h1 : (W.alloc (.cells news e')).heap[W.heap.size]? = some (.cells news e') := (MapKept.heap_alloc W _).1
    simp only [World.cell?, h1]
    simpa using hj
  · intro b cap w' ho' hg hat _
    refine h b cap w' ho' ⟨hg.os, hg.tape, hg.output, Nat.le_trans (by simp) hg.size, fun k hk hne => ?_⟩ (hat.imp id (fun e => by omega))
    rw [hg.block k (by simp; omega) hne]
    exact Below.heap_alloc _ _ _ hk
theorem step_one_lies {P : Program} {ops : Array Oper} {o : Oper} {a : Act} {K : Act → World → Prop} {Q : Exit → Act → World → Prop} {E : Prop} {W W' : World} {t e e' : TypeId} {z : Value} {size bytes base n g : Nat} {v : Value} {xs : List Value} {news : Array Value}
    (hE : Elem P t e z size bytes) (hgd : o.guard = none) (s x : Operand) (ho : o.op = .call { callee := .builtin .append, args := #[s, x], argTypes := #[t, t] })
    (hs : a.eval s = v) (hx : a.eval x = .slice (some ⟨g, 0, none⟩) 1 1) (hg : W.heap.size = g) (hW : W' = W.alloc (.cells news e')) (hown : W.ownsRow base e size v n xs)
    (hl : news.size = size) (h1 : ∀ u ∈ news.toList, u.oneCell' = true) (h63 : n + 1 ≤ maxLen) (hbytes : (n + 1) * bytes ≤ 140737488355328) (hbase : base ≤ W.heap.size)
    (h : ∀ b cap w', w'.ownsRow base e size (.slice (some ⟨b, 0, none⟩) (n + 1) cap) (n + 1) (xs ++ news.toList) → W.grownBy w' v.ownBlock → (v.ownBlock = some b ∨ W.heap.size < b) → K (a.put o.dst (.slice (some ⟨b, 0, none⟩) (n + 1) cap)) w') :
    if Region.wanted o (yielded ops a.tmps) = true then Oper.wp P o a W' K Q else E := by
  subst hg hW
  obtain ⟨i, hi, hz0, hz1, hz2⟩ := hE.hi
  refine step_append_lies _ hgd s x t ho base e i z size bytes hE.ht hi hz0 hz1 hz2 hE.hzs hE.hsz v n xs hs (hown.alloc _) ⟨W.heap.size, 0, none⟩ 1 1 news.toList hx (by simp [hl]) ?_ h1 (by omega) h63 hbytes (by simp; omega) (W.heap.size + 1) (by simp) ?_
  · intro j u hj
    rw [Go.WideShapes.add_plain]
    have h1 : (W.alloc (.cells news e')).heap[W.heap.size]? = some (.cells news e') := (MapKept.heap_alloc W _).1
    simp only [World.cell?, h1]
    simpa using hj
  · intro b cap w' ho' hg hat _
    refine h b cap w' ho' ⟨hg.os, hg.tape, hg.output, Nat.le_trans (by simp) hg.size, fun k hk hne => ?_⟩ (hat.imp id (fun e => by omega))
    rw [hg.block k (by simp; omega) hne]
    exact Below.heap_alloc _ _ _ hk
/-- two growing rows, and the cells that hold them -/
structure Two (N U : Nat) (vp vm : Value) (n m : Nat) (xs ys : List Int) (W0 W : World) : Prop extends Mid N U vp vm n m xs ys W0 W where
  f0 : W.frozen? ⟨U, 0, none⟩ = false
  f1 : W.frozen? ⟨U, 1, none⟩ = false
theorem frozen_apart {w w' : World} {row : Option Nat} {g o : Nat} (h : w.grownBy w' row) (hg : g < w.heap.size) (hne : row ≠ some g) : w'.frozen? ⟨g, o, none⟩ = w.frozen? ⟨g, o, none⟩ := by
  simp only [World.frozen?, h.block g hg (fun e => hne (by cases e; rfl))]
theorem Two.start (W0 : World) (e : TypeId) : Two W0.heap.size W0.heap.size (.slice none 0 0) (.slice none 0 0) 0 0 [] [] W0 (W0.alloc (.cells #[.slice none 0 0, .slice none 0 0] e)) := by
  have q := cells_two W0 (.slice none 0 0) (.slice none 0 0) e
  have f := World.frozen?_alloc_new W0 #[.slice none 0 0, .slice none 0 0] e
  exact ⟨⟨Nat.le_refl _, by simp, q.1, q.2, World.ownsRow_nil _ _ _ _, World.ownsRow_nil _ _ _ _, by simp [Value.ownBlock], by simp [Value.ownBlock], by simp [Value.ownBlock], (Below.refl _ _).alloc (Nat.le_refl _) _⟩, f 0, f 1⟩
theorem Two.appM {N U n m m' b c : Nat} {vp vm : Value} {xs ys ys' : List Int} {W0 W W' : World} (h : Two N U vp vm n m xs ys W0 W) (g : W.grownBy W' vm.ownBlock) (om : W'.ownsRow N 2 1 (.slice (some ⟨b, 0, none⟩) m' c) m' (ys'.map (Value.int .i64))) (hat : vm.ownBlock = some b ∨ W.heap.size < b) : Two N U vp (.slice (some ⟨b, 0, none⟩) m' c) n m' xs ys' W0 (W'.setCell ⟨U, 1, none⟩ (.slice (some ⟨b, 0, none⟩) m' c)) := by
  have G := grown_set W' U 1 (.slice (some ⟨b, 0, none⟩) m' c)
  have hl := h.lt
  have mu : (Value.slice (some ⟨b, 0, none⟩) m' c).ownBlock ≠ some U := by
    rcases hat with e | e
    · have := h.mu; rw [e] at this; exact this
    · intro e2; have e3 : b = U := by cases e2; rfl
      omega
  have pm : ∀ k, vp.ownBlock = some k → (Value.slice (some ⟨b, 0, none⟩) m' c).ownBlock ≠ some k := by
    intro k e1 e2
    have e3 : b = k := by cases e2; rfl
    rcases hat with e | e
    · rw [e3] at e; exact h.pm k e1 e
    · have := (h.op.lt k e1).2; omega
  have NU := h.hU
  refine ⟨⟨h.hU, Nat.lt_of_lt_of_le h.lt (Nat.le_trans g.size G.size), ?_, World.cell?_setCell_same _ _ _ ((cell_apart g h.lt h.mu).trans h.u1), row_apart (row_apart h.op g (fun k e e2 => h.pm k e2 e)) G (fun k e => by cases e; exact h.pu), row_apart om G (fun k e => by cases e; exact mu), h.pu, mu, pm, below_set (h.bb.grown g (Nat.le_of_lt (Nat.lt_of_le_of_lt h.hU h.lt)) (fun k e => (h.om.lt k e).1)) h.hU⟩, ?_, ?_⟩
  · rw [World.cell?_setCell_other _ _ _ _ (by simp)]; exact (cell_apart g h.lt h.mu).trans h.u0
  · rw [World.frozen?_setCell]; exact (frozen_apart g h.lt h.mu).trans h.f0
  · rw [World.frozen?_setCell]; exact (frozen_apart g h.lt h.mu).trans h.f1
theorem Two.appP {N U n m n' b c : Nat} {vp vm : Value} {xs ys xs' : List Int} {W0 W W' : World} (h : Two N U vp vm n m xs ys W0 W) (g : W.grownBy W' vp.ownBlock) (op : W'.ownsRow N 2 1 (.slice (some ⟨b, 0, none⟩) n' c) n' (xs'.map (Value.int .i64))) (hat : vp.ownBlock = some b ∨ W.heap.size < b) : Two N U (.slice (some ⟨b, 0, none⟩) n' c) vm n' m xs' ys W0 (W'.setCell ⟨U, 0, none⟩ (.slice (some ⟨b, 0, none⟩) n' c)) := by
  have G := grown_set W' U 0 (.slice (some ⟨b, 0, none⟩) n' c)
  have hl := h.lt
  have pu : (Value.slice (some ⟨b, 0, none⟩) n' c).ownBlock ≠ some U := by
    rcases hat with e | e
    · have := h.pu; rw [e] at this; exact this
    · intro e2; have e3 : b = U := by cases e2; rfl
      omega
  have pm : ∀ k, (Value.slice (some ⟨b, 0, none⟩) n' c).ownBlock = some k → vm.ownBlock ≠ some k := by
    intro k e1 e2
    have e3 : b = k := by cases e1; rfl
    rcases hat with e | e
    · rw [e3] at e; exact h.pm k e e2
    · have := (h.om.lt k e2).2; omega
  refine ⟨⟨h.hU, Nat.lt_of_lt_of_le h.lt (Nat.le_trans g.size G.size), World.cell?_setCell_same _ _ _ ((cell_apart g h.lt h.pu).trans h.u0), ?_, row_apart op G (fun k e => by cases e; exact pu), row_apart (row_apart h.om g h.pm) G (fun k e => by cases e; exact h.mu), pu, h.mu, pm, below_set (h.bb.grown g (Nat.le_of_lt (Nat.lt_of_le_of_lt h.hU h.lt)) (fun k e => (h.op.lt k e).1)) h.hU⟩, ?_, ?_⟩
  · rw [World.cell?_setCell_other _ _ _ _ (by simp)]; exact (cell_apart g h.lt h.pu).trans h.u1
  · rw [World.frozen?_setCell]; exact (frozen_apart g h.lt h.pu).trans h.f0
  · rw [World.frozen?_setCell]; exact (frozen_apart g h.lt h.pu).trans h.f1
end Go.Proofs.Ytmffgbmjomaehaa
