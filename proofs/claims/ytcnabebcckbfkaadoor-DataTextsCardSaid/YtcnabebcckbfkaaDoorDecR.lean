/- Layer 2: what a number's text leads to; what Parse gives. -/
import Derived.Test.YtcnabebcckbfkaaDoorDecS
namespace Go.Proofs.YtcnabebcckbfkaaDoor
open Go.RowKit
set_option linter.unusedVariables false
theorem scan_step (l : List UInt8) (f pos : Nat) (neg pt : Bool) (W P : List Nat) (b : UInt8) (rest : List UInt8) (h : l.drop pos = b :: rest) (hb : b.toNat < 128) :
    scan ⟨l.toArray⟩ (f + 1) pos neg pt W P = if b.toNat = 45 ∧ pos = 0 then scan ⟨l.toArray⟩ f (pos + 1) true pt W P else if b.toNat = 46 ∧ pt = false then scan ⟨l.toArray⟩ f (pos + 1) neg true W P else if b.toNat < 48 ∨ 57 < b.toNat then none else if pt = true then scan ⟨l.toArray⟩ f (pos + 1) neg pt W (P ++ [b.toNat - 48]) else scan ⟨l.toArray⟩ f (pos + 1) neg pt (W ++ [b.toNat - 48]) P := by
  have hlt : pos < l.length := by
    rcases Nat.lt_or_ge pos l.length with h1 | h1
    · exact h1
    · rw [List.drop_eq_nil_of_le h1] at h; cases h
  have hg : l[pos] = b := by
    rw [List.drop_eq_getElem_cons hlt] at h
    exact (List.cons.inj h).1
  have hsz : pos < (⟨l.toArray⟩ : ByteArray).size := by simpa [ByteArray.size] using hlt
  have hget : (⟨l.toArray⟩ : ByteArray)[pos]'hsz = b := by
    show l.toArray[pos]'_ = b
    simpa using hg
  have hdec : Utf8.decode ⟨l.toArray⟩ pos = (b.toNat, 1) := by
    rw [decode_ascii _ pos hsz (by rw [hget]; exact hb), hget]
  rw [scan, if_pos hsz, hdec]
theorem scan_end (l : List UInt8) (f pos : Nat) (neg pt : Bool) (W P : List Nat) (h : l.drop pos = []) : scan ⟨l.toArray⟩ f pos neg pt W P = some (neg, W, P) := by
  cases f with
  | zero => rfl
  | succ f =>
    have hsz : ¬ pos < (⟨l.toArray⟩ : ByteArray).size := by
      have := List.drop_eq_nil_iff.1 h
      simp [ByteArray.size]
      omega
    rw [scan, if_neg hsz]
theorem digB_facts {d : Nat} (h : d < 10) : (digB d).toNat < 128 ∧ ¬ (digB d).toNat = 45 ∧ ¬ (digB d).toNat = 46 ∧ ¬ ((digB d).toNat < 48 ∨ 57 < (digB d).toNat) ∧ (digB d).toNat - 48 = d := by
  rw [digB_toNat h]; omega
theorem scan_whole (l : List UInt8) (neg : Bool) : ∀ (ds : List Nat) (fuel pos : Nat) (W : List Nat) (rest : List UInt8), (∀ d ∈ ds, d < 10) → l.drop pos = ds.map digB ++ rest → ds.length ≤ fuel →
    scan ⟨l.toArray⟩ fuel pos neg false W [] = scan ⟨l.toArray⟩ (fuel - ds.length) (pos + ds.length) neg false (W ++ ds) []
  | [], fuel, pos, W, rest, _, _, _ => by simp
  | d :: ds, fuel, pos, W, rest, hd, h, hf => by
    obtain ⟨f, rfl⟩ : ∃ f, fuel = f + 1 := ⟨fuel - 1, by simp only [List.length_cons] at hf; omega⟩
    simp only [List.length_cons] at hf
    obtain ⟨e1, e2, e3, e4, e5⟩ := digB_facts (hd d (by simp))
    have h1 : l.drop pos = digB d :: (ds.map digB ++ rest) := h
    have h2 : l.drop (pos + 1) = ds.map digB ++ rest := by rw [← List.drop_drop, h1]; rfl
    rw [scan_step l f pos neg false W [] _ _ h1 e1, if_neg (fun x => e2 x.1), if_neg (fun x => e3 x.1), if_neg e4, if_neg (by decide), e5, scan_whole l neg ds f (pos + 1) (W ++ [d]) rest (fun x hx => hd x (by simp [hx])) h2 (by omega)]
    rw [List.length_cons, List.append_assoc]
    congr 1 <;> omega
theorem scan_part (l : List UInt8) (neg : Bool) (W : List Nat) : ∀ (ds : List Nat) (fuel pos : Nat) (P : List Nat) (rest : List UInt8), (∀ d ∈ ds, d < 10) → l.drop pos = ds.map digB ++ rest → ds.length ≤ fuel →
    scan ⟨l.toArray⟩ fuel pos neg true W P = scan ⟨l.toArray⟩ (fuel - ds.length) (pos + ds.length) neg true W (P ++ ds)
  | [], fuel, pos, P, rest, _, _, _ => by simp
  | d :: ds, fuel, pos, P, rest, hd, h, hf => by
    obtain ⟨f, rfl⟩ : ∃ f, fuel = f + 1 := ⟨fuel - 1, by simp only [List.length_cons] at hf; omega⟩
    simp only [List.length_cons] at hf
    obtain ⟨e1, e2, e3, e4, e5⟩ := digB_facts (hd d (by simp))
    have h1 : l.drop pos = digB d :: (ds.map digB ++ rest) := h
    have h2 : l.drop (pos + 1) = ds.map digB ++ rest := by rw [← List.drop_drop, h1]; rfl
    rw [scan_step l f pos neg true W P _ _ h1 e1, if_neg (fun x => e2 x.1), if_neg (fun x => e3 x.1), if_neg e4, if_pos rfl, e5, scan_part l neg W ds f (pos + 1) (P ++ [d]) rest (fun x hx => hd x (by simp [hx])) h2 (by omega)]
    rw [List.length_cons, List.append_assoc]
    congr 1 <;> omega
theorem scan_body (l : List UInt8) (neg : Bool) (k m fuel pos : Nat) (h : l.drop pos = (digsN (m / 2 ^ k)).map digB ++ restL k (m % 2 ^ k)) (hf : l.length ≤ fuel + pos) :
    scan ⟨l.toArray⟩ fuel pos neg false [] [] = some (neg, digsN (m / 2 ^ k), fracL k (m % 2 ^ k)) := by
  have hlen := congrArg List.length h
  rw [List.length_drop, List.length_append, List.length_map] at hlen
  rw [scan_whole l neg _ fuel pos [] _ (digsN_lt _) h (by omega), List.nil_append]
  have h2 : l.drop (pos + (digsN (m / 2 ^ k)).length) = restL k (m % 2 ^ k) := by
    rw [← List.drop_drop, h, List.drop_left' (by rw [List.length_map])]
  unfold restL at h2 hlen
  by_cases h0 : m % 2 ^ k = 0
  · rw [if_pos h0] at h2
    rw [scan_end l _ _ _ _ _ _ h2, h0, fracL_zero]
  · rw [if_neg h0] at h2 hlen
    rw [List.length_cons, List.length_map] at hlen
    obtain ⟨f, hf'⟩ : ∃ f, fuel - (digsN (m / 2 ^ k)).length = f + 1 := ⟨fuel - (digsN (m / 2 ^ k)).length - 1, by omega⟩
    rw [hf', scan_step l f _ neg false _ [] 46 _ h2 (by decide), if_neg (by intro x; exact absurd x.1 (by decide)), if_pos ⟨by decide, rfl⟩]
    have h3 : l.drop (pos + (digsN (m / 2 ^ k)).length + 1) = (fracL k (m % 2 ^ k)).map digB ++ [] := by rw [← List.drop_drop, h2, List.append_nil]; rfl
    rw [scan_part l neg _ _ f _ [] [] (fracL_digit (Nat.mod_lt _ (pow_pos2 k))) h3 (by omega), List.nil_append]
    refine scan_end l _ _ _ _ _ _ ?_
    rw [← List.drop_drop, h3, List.append_nil, List.drop_eq_nil_of_le (by rw [List.length_map]; exact Nat.le_refl _)]
theorem scan_text (x : Int) (k : Nat) : scan ⟨(textL x k).toArray⟩ (textL x k).length 0 false false [] [] = some (decide (x < 0), digsN (x.natAbs / 2 ^ k), fracL k (x.natAbs % 2 ^ k)) := by
  have he := textL_eq x k
  by_cases hx : x < 0
  · rw [if_pos hx] at he
    have h1 : (textL x k).drop 0 = 45 :: ((digsN (x.natAbs / 2 ^ k)).map digB ++ restL k (x.natAbs % 2 ^ k)) := by rw [List.drop_zero, he]; rfl
    have hl : (textL x k).length = ((digsN (x.natAbs / 2 ^ k)).map digB ++ restL k (x.natAbs % 2 ^ k)).length + 1 := by rw [he]; simp
    rw [hl, scan_step _ _ 0 _ _ _ _ 45 _ h1 (by decide), if_pos ⟨by decide, rfl⟩]
    have h2 : (textL x k).drop (0 + 1) = (digsN (x.natAbs / 2 ^ k)).map digB ++ restL k (x.natAbs % 2 ^ k) := by rw [← List.drop_drop, h1]; rfl
    rw [scan_body _ true k x.natAbs _ (0 + 1) h2 (by omega)]
    simp [hx]
  · rw [if_neg hx, List.nil_append] at he
    rw [scan_body _ false k x.natAbs _ 0 (by rw [List.drop_zero]; exact he) (by omega)]
    simp [hx]
end Go.Proofs.YtcnabebcckbfkaaDoor
