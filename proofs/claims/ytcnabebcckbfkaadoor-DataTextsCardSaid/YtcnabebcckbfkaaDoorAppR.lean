/- append of a list to a row of the call's own. -/
import Derived.Test.YtcnabebcckbfkaaDoorGen
import Derived.Laws.AppendOwnNone
namespace Go.Proofs.YtcnabebcckbfkaaDoor
open Go.RowKit
set_option linter.unusedVariables false
theorem append_list {P : Program} {ops : Array Oper} {rest : List Oper} {o : Oper} {a : Act} {Q : Exit → Act → World → Prop} {W : World} {t e : TypeId} {z : Value} {size bytes base n m : Nat} {v u : Value} {xs ys : List Value}
    (hE : Elem P t e z size bytes) (hgd : o.guard = none) (s x : Operand) (ho : o.op = .call { callee := .builtin .append, args := #[s, x], argTypes := #[t, t] })
    (hs : a.eval s = v) (hx : a.eval x = u) (hown : W.ownsRow base e size v n xs) (hl : ys.length = m * size)
    (hsrc : (u = .slice none 0 0 ∧ ys = []) ∨ ∃ ad c, u = .slice (some ad) m c ∧ ∀ j y, ys[j]? = some y → W.cell? (ad.add j) = some y)
    (h1 : ∀ y ∈ ys, y.oneCell' = true) (h63 : n + m ≤ maxLen) (hbytes : (n + m) * bytes ≤ 140737488355328) (hbase : base ≤ W.heap.size)
    (h : ∀ v' w', w'.ownsRow base e size v' (n + m) (xs ++ ys) → W.grownBy w' v.ownBlock → wpList P ops Q rest (a.put o.dst v') w') : wpList P ops Q (o :: rest) a W := by
  obtain ⟨i, hi, hz0, hz1, hz2⟩ := hE.hi
  rcases hsrc with ⟨rfl, rfl⟩ | ⟨ad, c, rfl, hc⟩
  · have hm : m = 0 := by
      have := hE.hsz
      rcases Nat.eq_zero_or_pos m with h0 | h0
      · exact h0
      · have := Nat.mul_pos h0 hE.hsz
        simp at hl
        omega
    subst hm
    refine wpList_append_own_none hgd s x t ho base e i size hE.ht hi v n xs hs hown hx ?_
    exact h v W (by simpa using hown) (World.grownBy.refl _ _)
  · exact wpList_append_own W hgd s x t ho base e i z size bytes hE.ht hi hz0 hz1 hz2 hE.hzs hE.hsz v n xs hs hown ad m c ys hx hl hc h1 h63 hbytes hbase fun v' w' h2 h3 _ => h v' w' h2 h3
theorem ints_one {q : IntKind} {zs : List Int} : ∀ y ∈ zs.map (Value.int q), y.oneCell' = true := by
  intro y hy
  simp only [List.mem_map] at hy
  obtain ⟨z, _, rfl⟩ := hy
  rfl
theorem own_src {w : World} {base n : Nat} {e : TypeId} {v : Value} {xs : List Value} (h : w.ownsRow base e 1 v n xs) : (v = .slice none 0 0 ∧ xs = []) ∨ ∃ ad c, v = .slice (some ad) n c ∧ ∀ j y, xs[j]? = some y → w.cell? (ad.add j) = some y := by
  obtain ⟨hl, ⟨e0, hn⟩ | ⟨b, off, cap, e0, hn, hb, hc⟩⟩ := SliceAt.of_owns h
  · subst hn
    exact .inl ⟨e0, List.length_eq_zero_iff.1 (by simpa using hl)⟩
  · exact .inr ⟨_, cap, e0, fun j u hj => by rw [Go.WideShapes.add_plain]; exact hc j u hj⟩
end Go.Proofs.YtcnabebcckbfkaaDoor
