/- Permutations as plain lists: nothing here speaks of a program. -/
import Derived.Test.YtgkiloidjeahbaaBndM
namespace Go.Proofs.Ytgkiloidjeahbaa
open Go.RowKit
def idL (n : Nat) : List Int := (List.range n).map fun (i : Nat) => (i : Int)
theorem idL_length (n : Nat) : (idL n).length = n := by simp [idL]
theorem idL_succ (n : Nat) : idL (n + 1) = idL n ++ [(n : Int)] := by unfold idL; rw [List.range_succ, List.map_append]; rfl
theorem idL_get (n i : Nat) (h : i < (idL n).length) : (idL n)[i] = (i : Int) := by simp [idL]
/-- one after the other: in range, and not seen before -/
def goodAt (p : List Int) (k : Nat) : Bool := decide (0 ≤ p[k]?.getD 0) && (decide (p[k]?.getD 0 < p.length) && !((p.take k).contains (p[k]?.getD 0)))
def validB (p : List Int) : Bool := (List.range p.length).all (goodAt p)
def GoodTo (p : List Int) (k : Nat) : Prop := ∀ j, j < k → goodAt p j = true
theorem valid_yes {p : List Int} (h : GoodTo p p.length) : validB p = true := List.all_eq_true.2 fun k hk => h k (List.mem_range.1 hk)
theorem valid_no {p : List Int} {k : Nat} (hk : k < p.length) (h : goodAt p k = false) : validB p = false := by
  rw [Bool.eq_false_iff]
  intro ht
  have := List.all_eq_true.1 ht k (List.mem_range.2 hk)
  rw [h] at this
  cases this
theorem GoodTo.succ {p : List Int} {k : Nat} (h : GoodTo p k) (hk : goodAt p k = true) : GoodTo p (k + 1) := fun j hj => by
  rcases Nat.lt_succ_iff_lt_or_eq.1 hj with h1 | rfl
  · exact h j h1
  · exact hk
/-- what it says -/
def Perm (p : List Int) : Prop := (∀ (i : Nat) (h : i < p.length), 0 ≤ p[i] ∧ p[i] < p.length) ∧ ∀ (i j : Nat) (hi : i < p.length) (hj : j < p.length), p[i] = p[j] → i = j
theorem valid_iff (p : List Int) : validB p = true ↔ Perm p := by
  unfold validB
  rw [List.all_eq_true]
  have key : ∀ k (hk : k < p.length), goodAt p k = true ↔ 0 ≤ p[k] ∧ p[k] < p.length ∧ ∀ i (hi : i < p.length), i < k → p[i] ≠ p[k] := by
    intro k hk
    unfold goodAt
    rw [List.getElem?_eq_getElem hk, Option.getD_some]
    simp only [Bool.and_eq_true, decide_eq_true_eq, Bool.not_eq_true']
    refine ⟨fun h => ⟨h.1, h.2.1, fun i hi hik he => ?_⟩, fun h => ⟨h.1, h.2.1, ?_⟩⟩
    · have hc : (p.take k).contains p[k] = true := by
        rw [List.contains_iff_mem]
        exact List.mem_iff_getElem.2 ⟨i, by rw [List.length_take]; omega, by rw [List.getElem_take]; exact he⟩
      rw [h.2.2] at hc; cases hc
    · rw [Bool.eq_false_iff]
      intro hc
      rw [List.contains_iff_mem] at hc
      obtain ⟨i, hi, he⟩ := List.mem_iff_getElem.1 hc
      rw [List.length_take] at hi
      rw [List.getElem_take] at he
      exact h.2.2 i (by omega) (by omega) he
  constructor
  · intro h
    have h' := fun k hk => (key k hk).1 (h k (List.mem_range.2 hk))
    refine ⟨fun i hi => ⟨(h' i hi).1, (h' i hi).2.1⟩, fun i j hi hj he => ?_⟩
    rcases Nat.lt_trichotomy i j with hl | hl | hl
    · exact absurd he ((h' j hj).2.2 i hi hl)
    · exact hl
    · exact absurd he.symm ((h' i hi).2.2 j hj hl)
  · intro h k hk
    have hk' := List.mem_range.1 hk
    exact (key k hk').2 ⟨(h.1 k hk').1, (h.1 k hk').2, fun i hi hik he => by have := h.2 i k hi hk' he; omega⟩
/-- the reference's search -/
def placeR (x : Int) : List Int → Nat → Int
  | [], _ => -1
  | y :: ys, k => if y = x then (k : Int) else placeR x ys (k + 1)
theorem placeR_drop (x : Int) (p : List Int) (k : Nat) (h : k < p.length) : placeR x (p.drop k) k = if p[k]?.getD 0 = x then (k : Int) else placeR x (p.drop (k + 1)) (k + 1) := by
  rw [List.drop_eq_getElem_cons h, List.getElem?_eq_getElem h]; rfl
theorem placeR_range (x : Int) (p : List Int) (k : Nat) : (placeR x p k = -1 ∧ x ∉ p) ∨ ∃ j, ∃ h : j < p.length, placeR x p k = ((k + j : Nat) : Int) ∧ p[j] = x := by
  induction p generalizing k with
  | nil => exact .inl ⟨rfl, by simp⟩
  | cons y ys ih =>
    unfold placeR
    by_cases h : y = x
    · rw [if_pos h]
      exact .inr ⟨0, by simp, by simp, by simpa using h⟩
    · rw [if_neg h]
      rcases ih (k + 1) with ⟨h1, h2⟩ | ⟨j, hj, h1, h2⟩
      · exact .inl ⟨h1, by simp [h2]; exact fun e => h e.symm⟩
      · exact .inr ⟨j + 1, by simp; omega, by rw [h1]; omega, by simpa using h2⟩
theorem placeR_neg (x : Int) (p : List Int) : placeR x p 0 < 0 ↔ x ∉ p := by
  rcases placeR_range x p 0 with ⟨h1, h2⟩ | ⟨j, hj, h1, h2⟩
  · exact ⟨fun _ => h2, fun _ => by omega⟩
  · exact ⟨fun h => by omega, fun h => absurd (h2 ▸ List.getElem_mem hj) h⟩
theorem placeR_at {p : List Int} (hp : Perm p) (i : Nat) (h : i < p.length) : placeR p[i] p 0 = (i : Int) := by
  rcases placeR_range p[i] p 0 with ⟨h1, h2⟩ | ⟨j, hj, h1, h2⟩
  · exact absurd (List.getElem_mem h) h2
  · have := hp.2 j i hj h h2
    omega
def refValidB (p : List Int) : Bool := (List.range p.length).all fun (i : Nat) => decide (0 ≤ placeR (i : Int) p 0)
theorem cntL_mem (z : Int) (l : List Int) : z ∈ l ↔ 1 ≤ cntL z l := by
  unfold cntL
  constructor
  · intro h
    have : z ∈ l.filter fun x => x == z := List.mem_filter.2 ⟨h, by simp⟩
    exact List.length_pos_iff.2 (fun e => by rw [e] at this; cases this)
  · intro h
    obtain ⟨y, hy⟩ := List.exists_mem_of_length_pos (show 0 < (l.filter fun x => x == z).length by omega)
    have := List.mem_filter.1 hy
    have e : y = z := by simpa using this.2
    rw [← e]; exact this.1
theorem ref_valid (p : List Int) : refValidB p = validB p := by
  rw [Bool.eq_iff_iff, valid_iff]
  have hr : refValidB p = true ↔ ∀ i, i < p.length → (i : Int) ∈ p := by
    unfold refValidB
    simp only [List.all_eq_true, List.mem_range, decide_eq_true_eq]
    refine ⟨fun h i hi => ?_, fun h i hi => ?_⟩
    · apply Classical.byContradiction
      intro hn
      have := (placeR_neg _ _).2 hn
      have := h i hi
      omega
    · apply Classical.byContradiction
      intro hn
      exact (placeR_neg _ _).1 (by omega) (h i hi)
  rw [hr]
  have hsum := sum_counts p.length p
  have hfl := List.length_filter_le (fun x => inR p.length x) p
  constructor
  · intro h
    have hge : ∀ w ∈ List.range p.length, 1 ≤ cntL (w : Int) p := fun w hw => (cntL_mem _ _).1 (h w (List.mem_range.1 hw))
    have hsum2 : ∀ l : List Nat, (∀ w ∈ l, 1 ≤ cntL (w : Int) p) → l.length ≤ (l.map fun (w : Nat) => cntL (w : Int) p).sum := by
      intro l
      induction l with
      | nil => simp
      | cons a l ih => intro hl; have := ih (fun w hw => hl w (by simp [hw])); have := hl a (by simp); simp; omega
    have h1 := hsum2 (List.range p.length) hge
    rw [List.length_range] at h1
    have hfull := filter_full p (fun x => inR p.length x) (by omega)
    have hone : ∀ w ∈ List.range p.length, cntL (w : Int) p ≤ 1 := by
      -- the sum is the length, and each is at least one
      have hs : ((List.range p.length).map fun (w : Nat) => cntL (w : Int) p).sum = (List.range p.length).length := by rw [List.length_range]; omega
      revert hs hge
      generalize List.range p.length = l
      intro hge hs
      induction l with
      | nil => simp
      | cons a l ih =>
        have h2 := hsum2 l (fun w hw => hge w (by simp [hw]))
        have h3 := hge a (by simp)
        simp at hs
        intro w hw
        rcases List.mem_cons.1 hw with rfl | hw
        · omega
        · exact ih (fun w hw => hge w (by simp [hw])) (by omega) w hw
    have hin : ∀ (i : Nat) (h : i < p.length), 0 ≤ p[i] ∧ p[i] < p.length := fun i hi => by
      have := hfull p[i] (List.getElem_mem hi)
      unfold inR at this
      rw [Bool.and_eq_true, decide_eq_true_eq, decide_eq_true_eq] at this
      exact this
    refine ⟨hin, fun i j hi hj he => ?_⟩
    obtain ⟨v, hv⟩ := Int.eq_ofNat_of_zero_le (hin i hi).1
    have hlt : v < p.length := by have := (hin i hi).2; omega
    have h4 := hone v (List.mem_range.2 hlt)
    rcases Nat.lt_trichotomy i j with hl | hl | hl
    · have := cnt_two p v i j hl hj hv (he ▸ hv); omega
    · exact hl
    · have := cnt_two p v j i hl hi (he ▸ hv) hv; omega
  · intro h i hi
    have hall : p.filter (fun x => inR p.length x) = p := by
      rw [List.filter_eq_self]
      intro x hx
      obtain ⟨n, hn, rfl⟩ := List.getElem_of_mem hx
      have := h.1 n hn
      simp [inR, this.1, this.2]
    rw [hall] at hsum
    have hone := ones_of_sum (fun (w : Nat) => cntL (w : Int) p) (List.range p.length) (fun w _ => cnt_le_one _ _ (fun a b hb hab ha hbz => by
      have := h.2 a b (by omega) hb (ha.trans hbz.symm)
      omega)) (by rw [List.length_range]; exact hsum)
    exact (cntL_mem _ _).2 (by have := hone i (List.mem_range.2 hi); omega)
/-- an exchange -/
def swapL (l : List Int) (i j : Nat) : List Int := (l.set i (l[j]?.getD 0)).set j (l[i]?.getD 0)
theorem swapL_length (l : List Int) (i j : Nat) : (swapL l i j).length = l.length := by simp [swapL]
theorem swapL_eq (l : List Int) (i j : Nat) (hi : i < l.length) (hj : j < l.length) : swapL l i j = (l.set i l[j]).set j l[i] := by
  unfold swapL
  rw [List.getElem?_eq_getElem hi, List.getElem?_eq_getElem hj]; rfl
theorem set2_get {l L : List Int} {i j k : Nat} {a b : Int} (e : L = (l.set i a).set j b) (h : k < L.length) (h' : k < l.length) : L[k] = if k = j then b else if k = i then a else l[k] := by
  subst e
  rw [List.getElem_set, List.getElem_set]
  by_cases h1 : j = k
  · rw [if_pos h1, if_pos h1.symm]
  · have h1' : ¬ k = j := fun e => h1 e.symm
    rw [if_neg h1, if_neg h1']
    by_cases h2 : i = k
    · rw [if_pos h2, if_pos h2.symm]
    · have h2' : ¬ k = i := fun e => h2 e.symm
      rw [if_neg h2, if_neg h2']
theorem swapL_get (l : List Int) (i j k : Nat) (hi : i < l.length) (hj : j < l.length) (h : k < (swapL l i j).length) : (swapL l i j)[k] = if k = j then l[i] else if k = i then l[j] else l[k]'(by rw [swapL_length] at h; exact h) := set2_get (swapL_eq l i j hi hj) h _
theorem Perm.swap {l : List Int} (h : Perm l) (i j : Nat) (hi : i < l.length) (hj : j < l.length) : Perm (swapL l i j) := by
  refine ⟨fun k hk => ?_, fun a b ha hb he => ?_⟩
  · have e := swapL_length l i j
    have hk' : k < l.length := e ▸ hk
    rw [swapL_get l i j k hi hj hk]
    have h1 := h.1 i hi
    have h2 := h.1 j hj
    have h3 := h.1 k hk'
    split
    · omega
    · split <;> omega
  · have ha' : a < l.length := by rw [swapL_length] at ha; exact ha
    have hb' : b < l.length := by rw [swapL_length] at hb; exact hb
    rw [swapL_get l i j a hi hj ha, swapL_get l i j b hi hj hb] at he
    have key : ∀ k, k < l.length → ∃ m, ∃ hm : m < l.length, (if k = j then l[i] else if k = i then l[j] else l[k]?.getD 0) = l[m] ∧ ((k = j ∧ m = i) ∨ (k ≠ j ∧ k = i ∧ m = j) ∨ (k ≠ j ∧ k ≠ i ∧ m = k)) := by
      intro k hk
      by_cases h1 : k = j
      · exact ⟨i, hi, by rw [if_pos h1], .inl ⟨h1, rfl⟩⟩
      · by_cases h2 : k = i
        · exact ⟨j, hj, by rw [if_neg h1, if_pos h2], .inr (.inl ⟨h1, h2, rfl⟩)⟩
        · exact ⟨k, hk, by rw [if_neg h1, if_neg h2, List.getElem?_eq_getElem hk]; rfl, .inr (.inr ⟨h1, h2, rfl⟩)⟩
    obtain ⟨m, hm, e1, c1⟩ := key a ha'
    obtain ⟨m', hm', e2, c2⟩ := key b hb'
    rw [List.getElem?_eq_getElem ha', Option.getD_some] at e1
    rw [List.getElem?_eq_getElem hb', Option.getD_some] at e2
    rw [e1, e2] at he
    have := h.2 m m' hm hm' he
    omega
theorem perm_id (n : Nat) : Perm (idL n) := by
  refine ⟨fun i h => ?_, fun i j hi hj he => ?_⟩
  · rw [idL_get]
    rw [idL_length] at h ⊢
    omega
  · rw [idL_get, idL_get] at he
    omega
/-- the shuffled numbers after s exchanges; draws are used from the place k on -/
def shufTo (zs : List Int) (k n : Nat) : Nat → List Int
  | 0 => idL n
  | s + 1 => swapL (shufTo zs k n s) (n - 1 - s) ((zs[k + s]?.getD 0) % ((n - 1 - s : Nat) + 1 : Int)).toNat
theorem shufTo_length (zs : List Int) (k n s : Nat) : (shufTo zs k n s).length = n := by
  induction s with
  | zero => exact idL_length n
  | succ s ih => unfold shufTo; rw [swapL_length, ih]
theorem draw_range (z : Int) (i : Nat) : 0 ≤ z % ((i : Int) + 1) ∧ z % ((i : Int) + 1) < (i : Int) + 1 := ⟨Int.emod_nonneg _ (by omega), Int.emod_lt_of_pos _ (by omega)⟩
theorem perm_shuf (zs : List Int) (k n s : Nat) (h : s + 1 ≤ n ∨ s = 0) : Perm (shufTo zs k n s) := by
  induction s with
  | zero => exact perm_id n
  | succ s ih =>
    have hn : s + 1 < n := by omega
    have h1 := draw_range (zs[k + s]?.getD 0) (n - 1 - s)
    unfold shufTo
    refine (ih (by omega)).swap _ _ (by rw [shufTo_length]; omega) (by rw [shufTo_length]; omega)
def needL (n : Int) : Nat := (n - 1).toNat
def shufL (zs : List Int) (k : Nat) (n : Nat) : List Int := shufTo zs k n (n - 1)
theorem shufL_length (zs : List Int) (k n : Nat) : (shufL zs k n).length = n := shufTo_length _ _ _ _
theorem shufL_valid (zs : List Int) (k n : Nat) : validB (shufL zs k n) = true := (valid_iff _).2 (perm_shuf zs k n (n - 1) (by omega))
end Go.Proofs.Ytgkiloidjeahbaa
