/- Layer 18: the reference's Send where there is room. -/
import Derived.Test.YtgbgmmakiimbbaaLnkM
import Derived.Test.YtgbgmmakiimbbaaLnkT
import Derived.Test.YtgbgmmakiimbbaaAppL
import Derived.Laws.AppendOwnNone
namespace Go.Proofs.Ytgbgmmakiimbbaa
open Go.RowKit
set_option linter.unusedVariables false
/-- append of a list to a row of the call's own, as a step of a statement that draws its order -/
theorem step_list {P : Program} {ops : Array Oper} {o : Oper} {a : Act} {K : Act → World → Prop} {Q : Exit → Act → World → Prop} {X : Prop} {W : World} {t e : TypeId} {z : Value} {size bytes base n m : Nat} {v u : Value} {xs ys : List Value}
    (hE : Elem P t e z size bytes) (hgd : o.guard = none) (s x : Operand) (ho : o.op = .call { callee := .builtin .append, args := #[s, x], argTypes := #[t, t] })
    (hs : a.eval s = v) (hx : a.eval x = u) (hown : W.ownsRow base e size v n xs) (hl : ys.length = m * size)
    (hsrc : (u = .slice none 0 0 ∧ ys = []) ∨ ∃ ad c, u = .slice (some ad) m c ∧ ∀ j y, ys[j]? = some y → W.cell? (ad.add j) = some y)
    (h1 : ∀ y ∈ ys, y.oneCell' = true) (h63 : n + m ≤ maxLen) (hbytes : (n + m) * bytes ≤ 140737488355328) (hbase : base ≤ W.heap.size)
    (h : ∀ v' w', w'.ownsRow base e size v' (n + m) (xs ++ ys) → W.grownBy w' v.ownBlock → K (a.put o.dst v') w') : if Region.wanted o (yielded ops a.tmps) = true then Oper.wp P o a W K Q else X := by
  have hw : Region.wanted o (yielded ops a.tmps) = true := by simp [Region.wanted, hgd]
  rw [if_pos hw]
  obtain ⟨i, hi, hz0, hz1, hz2⟩ := hE.hi
  rcases hsrc with ⟨rfl, rfl⟩ | ⟨ad, c, rfl, hc⟩
  · have hm : m = 0 := by
      rcases Nat.eq_zero_or_pos m with h0 | h0
      · exact h0
      · have := Nat.mul_pos h0 hE.hsz
        simp at hl
        omega
    subst hm
    have hrun := run_append_owned_none (P := P) (w := W) base t o.type e i size hE.ht hi v n xs hown
    unfold Oper.wp
    simp [execOp, ho, resolve, invoke, builtin, hs, hx, hrun, Result.andThen]
    exact h v W (by simpa using hown) (World.grownBy.refl _ _)
  · obtain ⟨v', w', hr, h2, h3, _⟩ := run_append_own (P := P) (w := W) base t o.type e i z size bytes hE.ht hi hz0 hz1 hz2 hE.hzs hE.hsz v n xs hown ad m c ys hl hc h1 h63 hbytes hbase
    unfold Oper.wp
    simp [execOp, ho, resolve, invoke, builtin, hs, hx, hr, Result.andThen]
    exact h v' w' h2 h3
/-- the reference's list of all messages: a row of the call's own, and values that lie below n₀ -/
def SentAt (n₀ B : Nat) (w : World) (sv : Value) (ms : List Ms) : Prop := ∃ cs, w.ownsRow B 34 6 sv ms.length cs ∧ ∀ i m, ms[i]? = some m → ∃ u,
    (cs[i * 6]? = some (.int .i64 m.t.a) ∧ cs[i * 6 + 1]? = some (.int .i64 m.t.b) ∧ cs[i * 6 + 2]? = some (.int .i64 m.t.c) ∧ cs[i * 6 + 3]? = some (.int .i64 m.t.d) ∧ cs[i * 6 + 4]? = some (.int .i64 m.t.e) ∧ cs[i * 6 + 5]? = some u) ∧ IntsW .i64 n₀ w u m.zs
theorem SentAt.nil (n₀ B : Nat) (w : World) : SentAt n₀ B w (.slice none 0 0) [] := ⟨[], World.ownsRow_nil _ _ _ _, fun i m hm => by simp at hm⟩
theorem SentAt.later {n₀ B : Nat} {w w' : World} {sv : Value} {ms : List Ms} (h : SentAt n₀ B w sv ms) (hb : Below w.heap.size w w') (h0 : n₀ ≤ w.heap.size) : SentAt n₀ B w' sv ms := by
  obtain ⟨cs, ho, hc⟩ := h
  refine ⟨cs, own_below ho hb, fun i m hm => ?_⟩
  obtain ⟨u, hd, hu⟩ := hc i m hm
  exact ⟨u, hd, hu.below (hb.mono h0)⟩
theorem SentAt.base {n₀ B B' : Nat} {w : World} {sv : Value} {ms : List Ms} (h : SentAt n₀ B w sv ms) (hb : B' ≤ B) : SentAt n₀ B' w sv ms := by
  obtain ⟨cs, ho, hc⟩ := h
  exact ⟨cs, own_base ho hb, hc⟩
theorem SentAt.touch {n₀ B b : Nat} {r : Option Nat} {w w' : World} {sv : Value} {ms : List Ms} (h : SentAt n₀ B w sv ms) (ht : Touch b r w w') (h0 : n₀ ≤ b) (hb : b < B) (hr : sv.ownBlock = none ∨ sv.ownBlock ≠ r) : SentAt n₀ B w' sv ms := by
  obtain ⟨cs, ho, hc⟩ := h
  refine ⟨cs, ht.row ho (fun e => ?_) hr, fun i m hm => ?_⟩
  · have := (ho.lt b e).1
    omega
  · obtain ⟨u, hd, hu⟩ := hc i m hm
    exact ⟨u, hd, hu.below (ht.1.mono h0)⟩
theorem SentAt.value {n₀ B : Nat} {w : World} {sv : Value} {ms : List Ms} (h : SentAt n₀ B w sv ms) : ∃ a c, sv = .slice a ms.length c := by
  obtain ⟨cs, ho, _⟩ := h
  exact own_value ho
theorem SentAt.msgs {n₀ B : Nat} {w : World} {sv : Value} {ms : List Ms} (h : SentAt n₀ B w sv ms) (h0 : n₀ ≤ w.heap.size) : MsgsR w sv ms := by
  obtain ⟨cs, ho, hc⟩ := h
  obtain ⟨hl, ⟨e0, hn⟩ | ⟨b, off, cap, e0, hn, hb, hcc⟩⟩ := SliceAt.of_owns ho
  · exact .inl ⟨e0, List.length_eq_zero_iff.1 hn⟩
  · refine .inr ⟨b, off, cap, e0, hn, fun i m hm => ?_⟩
    obtain ⟨u, ⟨d0, d1, d2, d3, d4, d5⟩, hu⟩ := hc i m hm
    exact ⟨u, ⟨hcc _ _ d0, hcc _ _ d1, hcc _ _ d2, hcc _ _ d3, hcc _ _ d4, hcc _ _ d5⟩, hu.grow h0⟩
theorem SentAt.one {n₀ : Nat} {w : World} {ms : List Ms} {cs : List Value} (hl : cs.length = ms.length * 6) (hc : ∀ i m, ms[i]? = some m → ∃ u,
    (cs[i * 6]? = some (.int .i64 m.t.a) ∧ cs[i * 6 + 1]? = some (.int .i64 m.t.b) ∧ cs[i * 6 + 2]? = some (.int .i64 m.t.c) ∧ cs[i * 6 + 3]? = some (.int .i64 m.t.d) ∧ cs[i * 6 + 4]? = some (.int .i64 m.t.e) ∧ cs[i * 6 + 5]? = some u) ∧ IntsW .i64 n₀ w u m.zs) : ∀ y ∈ cs, y.oneCell' = true := by
  intro y hy
  obtain ⟨j, hj, rfl⟩ := List.getElem_of_mem hy
  have hi : j / 6 < ms.length := by omega
  obtain ⟨u, ⟨d0, d1, d2, d3, d4, d5⟩, hu⟩ := hc (j / 6) _ (List.getElem?_eq_getElem hi)
  obtain ⟨a, c, rfl⟩ := hu.value
  have key : ∀ k x, k < 6 → j = j / 6 * 6 + k → cs[j / 6 * 6 + k]? = some x → x.oneCell' = true → cs[j].oneCell' = true := by
    intro k x hk hjk hx ho
    rw [← hjk, List.getElem?_eq_getElem hj] at hx
    rw [Option.some.inj hx]
    exact ho
  rcases (show j % 6 = 0 ∨ j % 6 = 1 ∨ j % 6 = 2 ∨ j % 6 = 3 ∨ j % 6 = 4 ∨ j % 6 = 5 by omega) with h | h | h | h | h | h
  · exact key 0 _ (by omega) (by omega) (by simpa using d0) rfl
  · exact key 1 _ (by omega) (by omega) d1 rfl
  · exact key 2 _ (by omega) (by omega) d2 rfl
  · exact key 3 _ (by omega) (by omega) d3 rfl
  · exact key 4 _ (by omega) (by omega) d4 rfl
  · exact key 5 _ (by omega) (by omega) d5 rfl
theorem SentAt.snoc {n₀ B : Nat} {w w' : World} {sv' v : Value} {ms : List Ms} {t : Tg} {zs : List Int} {cs : List Value} (hl : cs.length = ms.length * 6)
    (hc : ∀ i m, ms[i]? = some m → ∃ u, (cs[i * 6]? = some (.int .i64 m.t.a) ∧ cs[i * 6 + 1]? = some (.int .i64 m.t.b) ∧ cs[i * 6 + 2]? = some (.int .i64 m.t.c) ∧ cs[i * 6 + 3]? = some (.int .i64 m.t.d) ∧ cs[i * 6 + 4]? = some (.int .i64 m.t.e) ∧ cs[i * 6 + 5]? = some u) ∧ IntsW .i64 n₀ w u m.zs)
    (hv : IntsW .i64 n₀ w v zs) (hb : Below n₀ w w')
    (ho : w'.ownsRow B 34 6 sv' (ms.length + 1) (cs ++ [.int .i64 t.a, .int .i64 t.b, .int .i64 t.c, .int .i64 t.d, .int .i64 t.e, v])) : SentAt n₀ B w' sv' (ms ++ [⟨t, zs⟩]) := by
  refine ⟨_, by rw [List.length_append]; exact ho, fun i m hm => ?_⟩
  rcases Nat.lt_trichotomy i ms.length with hil | hil | hil
  · rw [List.getElem?_append_left hil] at hm
    obtain ⟨u, ⟨d0, d1, d2, d3, d4, d5⟩, hu⟩ := hc i m hm
    refine ⟨u, ⟨?_, ?_, ?_, ?_, ?_, ?_⟩, hu.below hb⟩
    · rw [List.getElem?_append_left (by omega)]; exact d0
    · rw [List.getElem?_append_left (by omega)]; exact d1
    · rw [List.getElem?_append_left (by omega)]; exact d2
    · rw [List.getElem?_append_left (by omega)]; exact d3
    · rw [List.getElem?_append_left (by omega)]; exact d4
    · rw [List.getElem?_append_left (by omega)]; exact d5
  · subst hil
    rw [List.getElem?_append_right (Nat.le_refl _), Nat.sub_self] at hm
    cases hm
    refine ⟨v, ⟨?_, ?_, ?_, ?_, ?_, ?_⟩, hv.below hb⟩
    · rw [List.getElem?_append_right (by omega), show ms.length * 6 - cs.length = 0 by omega]; rfl
    · rw [List.getElem?_append_right (by omega), show ms.length * 6 + 1 - cs.length = 1 by omega]; rfl
    · rw [List.getElem?_append_right (by omega), show ms.length * 6 + 2 - cs.length = 2 by omega]; rfl
    · rw [List.getElem?_append_right (by omega), show ms.length * 6 + 3 - cs.length = 3 by omega]; rfl
    · rw [List.getElem?_append_right (by omega), show ms.length * 6 + 4 - cs.length = 4 by omega]; rfl
    · rw [List.getElem?_append_right (by omega), show ms.length * 6 + 5 - cs.length = 5 by omega]; rfl
  · rw [List.getElem?_eq_none (by simp; omega)] at hm
    cases hm
end Go.Proofs.Ytgbgmmakiimbbaa
