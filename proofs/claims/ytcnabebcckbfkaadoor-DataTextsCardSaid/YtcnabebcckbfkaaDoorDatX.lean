/- Layer 10: texts differ where examples do; Same. -/
import Derived.Test.YtcnabebcckbfkaaDoorDatA
import Derived.Test.YtcnabebcckbfkaaDoorDatV
import Derived.Test.YtcnabebcckbfkaaDoorDecN
import Derived.Deep.Cut
namespace Go.Proofs.YtcnabebcckbfkaaDoor
open Go.RowKit
set_option linter.unusedVariables false
theorem cut_sep {α : Type} (s : α) : ∀ {x x' A A' : List α}, s ∉ x → s ∉ x' → x ++ s :: A = x' ++ s :: A' → x = x' ∧ A = A'
  | [], [], A, A', _, _, h => by simpa using h
  | [], b :: x', A, A', _, h2, h => by
    simp only [List.nil_append, List.cons_append, List.cons.injEq] at h
    exact absurd (by rw [h.1]; exact List.mem_cons_self) h2
  | b :: x, [], A, A', h1, _, h => by
    simp only [List.nil_append, List.cons_append, List.cons.injEq] at h
    exact absurd (by rw [← h.1]; exact List.mem_cons_self) h1
  | b :: x, b' :: x', A, A', h1, h2, h => by
    simp only [List.cons_append, List.cons.injEq] at h
    obtain ⟨e1, e2⟩ := cut_sep s (fun m => h1 (List.mem_cons_of_mem _ m)) (fun m => h2 (List.mem_cons_of_mem _ m)) h.2
    exact ⟨by rw [h.1, e1], e2⟩
theorem tail_cons (y : List UInt8) (r : List (List UInt8)) : Lib.joinTail [32] (y :: r) = 32 :: (y ++ Lib.joinTail [32] r) := by simp [Lib.joinTail]
theorem tail_nil : Lib.joinTail [32] [] = [] := rfl
theorem join_inj : ∀ {r r' : List (List UInt8)} {x x' : List UInt8}, (∀ w ∈ x :: r, (32 : UInt8) ∉ w) → (∀ w ∈ x' :: r', (32 : UInt8) ∉ w) → x ++ Lib.joinTail [32] r = x' ++ Lib.joinTail [32] r' → x :: r = x' :: r'
  | [], [], x, x', _, _, h => by rw [tail_nil, List.append_nil, List.append_nil] at h; rw [h]
  | [], y :: r', x, x', h1, _, h => by
    rw [tail_nil, List.append_nil, tail_cons] at h
    exact absurd (by rw [h]; simp) (h1 x List.mem_cons_self)
  | y :: r, [], x, x', _, h2, h => by
    rw [tail_nil, List.append_nil, tail_cons] at h
    exact absurd (by rw [← h]; simp) (h2 x' List.mem_cons_self)
  | y :: r, y' :: r', x, x', h1, h2, h => by
    rw [tail_cons, tail_cons] at h
    obtain ⟨e1, e2⟩ := cut_sep 32 (h1 x List.mem_cons_self) (h2 x' List.mem_cons_self) h
    have e3 := join_inj (fun w hw => h1 w (List.mem_cons_of_mem _ hw)) (fun w hw => h2 w (List.mem_cons_of_mem _ hw)) e2
    rw [e1, e3]
theorem text_char {x : Int} {b : UInt8} (h : b ∈ textB x 4) : b.toNat = 45 ∨ b.toNat = 46 ∨ (48 ≤ b.toNat ∧ b.toNat ≤ 57) := by
  have e : textB x 4 = textL x 4 := by unfold textB; rw [if_pos (by omega)]; rfl
  rw [e] at h
  unfold textL at h
  rw [List.mem_append, List.mem_append] at h
  have dig : ∀ {ds : List Nat}, (∀ d ∈ ds, d < 10) → b ∈ ds.map digB → 48 ≤ b.toNat ∧ b.toNat ≤ 57 := by
    intro ds hd hb
    obtain ⟨d, hm, rfl⟩ := List.mem_map.1 hb
    have := hd d hm
    rw [digB_toNat this]
    omega
  rcases h with (h | h) | h
  · split at h
    · simp at h; subst h; exact .inl rfl
    · simp at h
  · rw [dec_digs] at h
    exact .inr (.inr (dig (digsN_lt _) h))
  · split at h
    · simp at h
    · rcases List.mem_cons.1 h with rfl | h
      · exact .inr (.inl rfl)
      · exact .inr (.inr (dig (fracL_digit (Nat.mod_lt _ (Nat.two_pow_pos 4))) h))
theorem text_no32 (x : Int) : (32 : UInt8) ∉ textB x 4 := fun h => by
  have := text_char h
  have e : (32 : UInt8).toNat = 32 := rfl
  omega
theorem text_not62 (x : Int) : textB x 4 ≠ [62] := fun h => by
  have h2 : (62 : UInt8) ∈ textB x 4 := by rw [h]; simp
  have := text_char h2
  have e : (62 : UInt8).toNat = 62 := rfl
  omega
theorem textB_inj {x y : Int} (h : textB x 4 = textB y 4) : x = y := by
  unfold textB at h
  rw [if_pos (by omega), if_pos (by omega)] at h
  exact textL_inj (k := 4) (by omega) h
theorem texts_inj : ∀ {xs ys : List Int}, xs.map (textB · 4) = ys.map (textB · 4) → xs = ys
  | [], [], _ => rfl
  | [], y :: ys, h => by simp at h
  | x :: xs, [], h => by simp at h
  | x :: xs, y :: ys, h => by
    simp only [List.map_cons, List.cons.injEq] at h
    rw [textB_inj h.1, texts_inj h.2]
theorem words_list (xs ys : List Int) : (wordsB xs ys 4).map (·.data.toList) = xs.map (textB · 4) ++ [62] :: ys.map (textB · 4) := by
  simp [wordsB, strB]
  rfl
theorem words_no32 (xs ys : List Int) : ∀ w ∈ xs.map (textB · 4) ++ [62] :: ys.map (textB · 4), (32 : UInt8) ∉ w := by
  intro w hw
  rcases List.mem_append.1 hw with h | h
  · obtain ⟨x, _, rfl⟩ := List.mem_map.1 h; exact text_no32 x
  · rcases List.mem_cons.1 h with rfl | h
    · decide
    · obtain ⟨x, _, rfl⟩ := List.mem_map.1 h; exact text_no32 x
theorem textX_inj {xs ys xs' ys' : List Int} (h : textX xs ys 4 = textX xs' ys' 4) : xs = xs' ∧ ys = ys' := by
  unfold textX at h
  rw [words_list, words_list] at h
  have n1 := words_no32 xs ys
  have n2 := words_no32 xs' ys'
  have key : xs.map (textB · 4) ++ [62] :: ys.map (textB · 4) = xs'.map (textB · 4) ++ [62] :: ys'.map (textB · 4) := by
    generalize hl : xs.map (textB · 4) ++ [62] :: ys.map (textB · 4) = l at *
    generalize hl' : xs'.map (textB · 4) ++ [62] :: ys'.map (textB · 4) = l' at *
    cases l with
    | nil => simp at hl
    | cons x r =>
      cases l' with
      | nil => simp at hl'
      | cons x' r' =>
        rw [Lib.join_cons, Lib.join_cons] at h
        exact join_inj n1 n2 h
  have no : ∀ zs : List Int, ([62] : List UInt8) ∉ zs.map (textB · 4) := fun zs hm => by
    obtain ⟨z, _, e⟩ := List.mem_map.1 hm
    exact text_not62 z e
  obtain ⟨e1, e2⟩ := cut_sep ([62] : List UInt8) (no xs) (no xs') key
  exact ⟨texts_inj e1, texts_inj e2⟩
theorem textB_len (x : Int) (hx : -9223372036854775808 ≤ x ∧ x ≤ 9223372036854775807) : (textB x 4).length ≤ 100 := by
  have e : textB x 4 = textL x 4 := by unfold textB; rw [if_pos (by omega)]; rfl
  rw [e]
  unfold textL
  have h := dec_len (x.natAbs / 2 ^ 4) (by omega)
  have h2 := fracL_length 4 (x.natAbs % 2 ^ 4)
  rw [List.length_append, List.length_append]
  have a1 : (if x < 0 then ([45] : List UInt8) else []).length ≤ 1 := by split <;> simp
  have a2 : (if x.natAbs % 2 ^ 4 = 0 then ([] : List UInt8) else 46 :: (fracL 4 (x.natAbs % 2 ^ 4)).map digB).length ≤ 65 := by
    split
    · simp
    · simp; omega
  omega
theorem tail_len : ∀ r : List (List UInt8), (∀ w ∈ r, w.length ≤ 100) → (Lib.joinTail [32] r).length ≤ 101 * r.length
  | [], _ => by simp [tail_nil]
  | y :: r, h => by
    have h1 := h y List.mem_cons_self
    have h2 := tail_len r (fun w hw => h w (List.mem_cons_of_mem _ hw))
    rw [tail_cons, List.length_cons, List.length_append, List.length_cons]
    omega
theorem textX_len {xs ys : List Int} (hx : ∀ z ∈ xs, -9223372036854775808 ≤ z ∧ z ≤ 9223372036854775807) (hy : ∀ z ∈ ys, -9223372036854775808 ≤ z ∧ z ≤ 9223372036854775807) (h1 : xs.length ≤ 1000) (h2 : ys.length ≤ 1000) : (textX xs ys 4).length ≤ 1000000 := by
  unfold textX
  rw [words_list]
  have hw : ∀ w ∈ xs.map (textB · 4) ++ [62] :: ys.map (textB · 4), w.length ≤ 100 := by
    intro w hw
    rcases List.mem_append.1 hw with h | h
    · obtain ⟨x, hm, rfl⟩ := List.mem_map.1 h; exact textB_len x (hx x hm)
    · rcases List.mem_cons.1 h with rfl | h
      · decide
      · obtain ⟨x, hm, rfl⟩ := List.mem_map.1 h; exact textB_len x (hy x hm)
  have hl : (xs.map (textB · 4) ++ [62] :: ys.map (textB · 4)).length ≤ 2001 := by simp; omega
  cases h : xs.map (textB · 4) ++ [62] :: ys.map (textB · 4) with
  | nil => simp at h
  | cons x r =>
    rw [h] at hw hl
    rw [Lib.join_cons, List.length_append]
    have a1 := hw x List.mem_cons_self
    have a2 := tail_len r (fun w m => hw w (List.mem_cons_of_mem _ m))
    rw [List.length_cons] at hl
    omega
end Go.Proofs.YtcnabebcckbfkaaDoor
