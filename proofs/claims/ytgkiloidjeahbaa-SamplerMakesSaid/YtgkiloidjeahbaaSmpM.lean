/- Layer 12: batches and their parts as lists. -/
import Derived.Test.YtgkiloidjeahbaaPrmS
import Derived.Test.YtgkiloidjeahbaaPartC
namespace Go.Proofs.Ytgkiloidjeahbaa
open Go.RowKit
set_option linter.unusedVariables false
def ordTo (zs : List Int) (n s : Nat) : List (List Int) := (List.range s).map fun i => shufL zs (i * (n - 1)) n
theorem ordTo_length (zs : List Int) (n s : Nat) : (ordTo zs n s).length = s := by simp [ordTo]
theorem ordTo_succ (zs : List Int) (n s : Nat) : ordTo zs n (s + 1) = ordTo zs n s ++ [shufL zs (s * (n - 1)) n] := by unfold ordTo; rw [List.range_succ, List.map_append]; rfl
theorem ordTo_row {zs : List Int} {n s : Nat} : ∀ l ∈ ordTo zs n s, l.length = n := fun l hl => by
  simp only [ordTo, List.mem_map] at hl
  obtain ⟨i, _, rfl⟩ := hl
  exact shufL_length _ _ _
def cutL (l : List Int) (lo hi : Nat) : List Int := (l.take hi).drop lo
theorem cutL_length {l : List Int} {lo hi : Nat} (h : hi ≤ l.length) : (cutL l lo hi).length = hi - lo := by unfold cutL; rw [List.length_drop, List.length_take, Nat.min_eq_left h]
theorem take_cutL (l : List Int) (lo hi : Nat) (h : lo ≤ hi) : l.take lo ++ cutL l lo hi = l.take hi := by
  unfold cutL
  have h1 := List.take_append_drop lo (l.take hi)
  rw [List.take_take, Nat.min_eq_left h] at h1
  exact h1
/-- what a sampler is right for -/
structure RightS (n size steps : Nat) (ords : List (List Int)) : Prop where
  s1 : 1 ≤ size
  sn : size ≤ n
  n20 : n ≤ 1048576
  st : steps ≤ 1048576
  len : steps ≤ ords.length * (n / size)
  row : ∀ l ∈ ords, l.length = n
theorem RightS.each {n size steps : Nat} {ords : List (List Int)} (h : RightS n size steps ords) : 1 ≤ n / size ∧ n / size * size ≤ n ∧ n / size ≤ n :=
  ⟨(Nat.le_div_iff_mul_le (by have := h.s1; omega)).2 (by have := h.sn; omega), Nat.div_mul_le_self _ _, Nat.div_le_self _ _⟩
/-- where a step lies -/
theorem RightS.place {n size steps t : Nat} {ords : List (List Int)} (h : RightS n size steps ords) (ht : t < steps) : t / (n / size) < ords.length ∧ t % (n / size) * size + size ≤ n := by
  obtain ⟨e1, e2, e3⟩ := h.each
  constructor
  · exact (Nat.div_lt_iff_lt_mul (by omega)).2 (by have := h.len; omega)
  · have h1 := Nat.mod_lt t (show 0 < n / size by omega)
    have h2 : (t % (n / size) + 1) * size ≤ n / size * size := Nat.mul_le_mul_right _ h1
    rw [Nat.succ_mul] at h2
    omega
def batchL (n size steps : Nat) (ords : List (List Int)) (t : Int) : List Int :=
  if 0 ≤ t ∧ t < steps then cutL (ords[t.toNat / (n / size)]?.getD []) (t.toNat % (n / size) * size) (t.toNat % (n / size) * size + size) else []
theorem batchL_yes {n size steps : Nat} {ords : List (List Int)} {t : Nat} (h : t < steps) : batchL n size steps ords (t : Int) = cutL (ords[t / (n / size)]?.getD []) (t % (n / size) * size) (t % (n / size) * size + size) := by
  unfold batchL
  rw [if_pos (by omega)]
  rfl
theorem batchL_no {n size steps : Nat} {ords : List (List Int)} {t : Int} (h : t < 0 ∨ steps ≤ t) : batchL n size steps ords t = [] := if_neg (by omega)
theorem RightS.at {n size steps t : Nat} {ords : List (List Int)} (h : RightS n size steps ords) (ht : t < ords.length) : (ords[t]?.getD []).length = n := by
  rw [List.getElem?_eq_getElem ht, Option.getD_some]
  exact h.row _ (List.getElem_mem ht)
theorem batchL_length {n size steps : Nat} {ords : List (List Int)} (h : RightS n size steps ords) (t : Int) : (batchL n size steps ords t).length ≤ 1048576 := by
  by_cases ht : 0 ≤ t ∧ t < steps
  · obtain ⟨k, rfl⟩ := Int.eq_ofNat_of_zero_le ht.1
    have hk : k < steps := by omega
    rw [batchL_yes hk]
    obtain ⟨p1, p2⟩ := h.place hk
    rw [cutL_length (by rw [h.at p1]; exact p2)]
    have := h.n20
    omega
  · rw [batchL_no (by omega)]
    simp
/-- a part of a list in an even division -/
def pieceL (l : List Int) (i k : Int) : List Int := if 0 ≤ i ∧ i < k then cutL l (bnd l.length k i.toNat).toNat (bnd l.length k (i.toNat + 1)).toNat else []
theorem pieceL_yes {l : List Int} {i : Nat} {k : Int} (h : (i : Int) < k) : pieceL l (i : Int) k = cutL l (bnd l.length k i).toNat (bnd l.length k (i + 1)).toNat := by
  unfold pieceL
  rw [if_pos (by omega)]
  rfl
theorem pieceL_no {l : List Int} {i k : Int} (h : i < 0 ∨ k ≤ i) : pieceL l i k = [] := if_neg (by omega)
theorem pieceL_range {l : List Int} {i : Nat} {k : Int} (h : (i : Int) < k) : 0 ≤ bnd l.length k i ∧ bnd l.length k i ≤ bnd l.length k (i + 1) ∧ bnd l.length k (i + 1) ≤ l.length :=
  ⟨(bnd_range _ k i (by omega) (by omega) (by omega)).1, bnd_mono _ k i (by omega) (by omega), (bnd_range _ k (i + 1) (by omega) (by omega) (by omega)).2⟩
theorem pieceL_length (l : List Int) (i k : Int) : (pieceL l i k).length ≤ l.length := by
  by_cases h : 0 ≤ i ∧ i < k
  · obtain ⟨j, rfl⟩ := Int.eq_ofNat_of_zero_le h.1
    rw [pieceL_yes h.2]
    unfold cutL
    rw [List.length_drop, List.length_take]
    omega
  · rw [pieceL_no (by omega)]
    simp
/-- all pieces below one place are what lies there -/
theorem pieces_to {l : List Int} {i : Nat} {k : Int} (h : (i : Int) < k) : l.take (bnd l.length k i).toNat ++ pieceL l i k = l.take (bnd l.length k (i + 1)).toNat := by
  rw [pieceL_yes h]
  have := pieceL_range (l := l) h
  exact take_cutL _ _ _ (by omega)
theorem pieces_all (l : List Int) (k : Int) (h : 0 < k) : l.take (bnd l.length k k.toNat).toNat = l := by
  rw [bnd_last _ k h]
  exact List.take_length
end Go.Proofs.Ytgkiloidjeahbaa
