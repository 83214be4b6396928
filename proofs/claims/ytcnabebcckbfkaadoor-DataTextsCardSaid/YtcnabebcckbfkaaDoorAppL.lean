/- Appends whose new place is known, also as a step of a statement that draws its order. -/
import Derived.Test.YtcnabebcckbfkaaDoorMem
import Derived.Deep.AppendLies
import Derived.OwnWalk
namespace Go.Proofs.YtcnabebcckbfkaaDoor
open Go.RowKit
set_option linter.unusedVariables false
theorem append_one_lies {P : Program} {ops : Array Oper} {rest : List Oper} {o : Oper} {a : Act} {Q : Exit → Act → World → Prop} {W : World} {t e e' : TypeId} {z : Value} {size bytes base n g : Nat} {v : Value} {xs : List Value} {news : Array Value}
    (hE : Elem P t e z size bytes) (hgd : o.guard = none) (s x : Operand) (ho : o.op = .call { callee := .builtin .append, args := #[s, x], argTypes := #[t, t] })
    (hs : a.eval s = v) (hx : a.eval x = .slice (some ⟨g, 0, none⟩) 1 1) (hg : W.heap.size = g) (hown : W.ownsRow base e size v n xs)
    (hl : news.size = size) (h1 : ∀ u ∈ news.toList, u.oneCell' = true) (h63 : n + 1 ≤ maxLen) (hbytes : (n + 1) * bytes ≤ 140737488355328) (hbase : base ≤ W.heap.size)
    (h : ∀ b cap w', w'.ownsRow base e size (.slice (some ⟨b, 0, none⟩) (n + 1) cap) (n + 1) (xs ++ news.toList) → W.grownBy w' v.ownBlock → (v.ownBlock = some b ∨ W.heap.size < b) → wpList P ops Q rest (a.put o.dst (.slice (some ⟨b, 0, none⟩) (n + 1) cap)) w') : wpList P ops Q (o :: rest) a (W.alloc (.cells news e')) := by
  subst hg
  obtain ⟨i, hi, hz0, hz1, hz2⟩ := hE.hi
  refine wpList_append_lies _ hgd s x t ho base e i z size bytes hE.ht hi hz0 hz1 hz2 hE.hzs hE.hsz v n xs hs (hown.alloc _) ⟨W.heap.size, 0, none⟩ 1 1 news.toList hx (by simp [hl]) ?_ h1 (by omega) h63 hbytes (by simp; omega) (W.heap.size + 1) (by simp) ?_
  · intro j u hj
    rw [Go.WideShapes.add_plain]
    have h1 : (W.alloc (.cells news e')).heap[W.heap.size]? = some (.cells news e') := (MapKept.heap_alloc W _).1
    simp only [World.cell?, h1]
    simpa using hj
  · intro b cap w' ho' hg hat _
    refine h b cap w' ho' ⟨hg.os, hg.tape, hg.output, Nat.le_trans (by simp) hg.size, fun k hk hne => ?_⟩ (hat.imp id (fun e => by omega))
    rw [hg.block k (by simp; omega) hne]
    exact Below.heap_alloc _ _ _ hk
theorem step_one_lies {P : Program} {ops : Array Oper} {o : Oper} {a : Act} {K : Act → World → Prop} {Q : Exit → Act → World → Prop} {E : Prop} {W W' : World} {t e e' : TypeId} {z : Value} {size bytes base n g : Nat} {v : Value} {xs : List Value} {news : Array Value}
    (hE : Elem P t e z size bytes) (hgd : o.guard = none) (s x : Operand) (ho : o.op = .call { callee := .builtin .append, args := #[s, x], argTypes := #[t, t] })
    (hs : a.eval s = v) (hx : a.eval x = .slice (some ⟨g, 0, none⟩) 1 1) (hg : W.heap.size = g) (hW : W' = W.alloc (.cells news e')) (hown : W.ownsRow base e size v n xs)
    (hl : news.size = size) (h1 : ∀ u ∈ news.toList, u.oneCell' = true) (h63 : n + 1 ≤ maxLen) (hbytes : (n + 1) * bytes ≤ 140737488355328) (hbase : base ≤ W.heap.size)
    (h : ∀ b cap w', w'.ownsRow base e size (.slice (some ⟨b, 0, none⟩) (n + 1) cap) (n + 1) (xs ++ news.toList) → W.grownBy w' v.ownBlock → (v.ownBlock = some b ∨ W.heap.size < b) → K (a.put o.dst (.slice (some ⟨b, 0, none⟩) (n + 1) cap)) w') :
    if Region.wanted o (yielded ops a.tmps) = true then Oper.wp P o a W' K Q else E := by
  subst hg hW
  obtain ⟨i, hi, hz0, hz1, hz2⟩ := hE.hi
  refine step_append_lies _ hgd s x t ho base e i z size bytes hE.ht hi hz0 hz1 hz2 hE.hzs hE.hsz v n xs hs (hown.alloc _) ⟨W.heap.size, 0, none⟩ 1 1 news.toList hx (by simp [hl]) ?_ h1 (by omega) h63 hbytes (by simp; omega) (W.heap.size + 1) (by simp) ?_
  · intro j u hj
    rw [Go.WideShapes.add_plain]
    have h1 : (W.alloc (.cells news e')).heap[W.heap.size]? = some (.cells news e') := (MapKept.heap_alloc W _).1
    simp only [World.cell?, h1]
    simpa using hj
  · intro b cap w' ho' hg hat _
    refine h b cap w' ho' ⟨hg.os, hg.tape, hg.output, Nat.le_trans (by simp) hg.size, fun k hk hne => ?_⟩ (hat.imp id (fun e => by omega))
    rw [hg.block k (by simp; omega) hne]
    exact Below.heap_alloc _ _ _ hk
end Go.Proofs.YtcnabebcckbfkaaDoor
