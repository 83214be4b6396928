/- The draws that make a permutation, as plain lists: nothing here speaks of a program. -/
import Derived.Test.YtanfdajllhlcbaaPrmF
namespace Go.Proofs.Ytanfdajllhlcbaa
open Go.RowKit
/-- the list after s exchanges -/
def LD (p : List Int) : Nat → List Int
  | 0 => idL p.length
  | s + 1 => swapL (LD p s) (p.length - 1 - s) (placeR (p[p.length - 1 - s]?.getD 0) (LD p s) 0).toNat
def drawAt (p : List Int) (s : Nat) : Int := placeR (p[p.length - 1 - s]?.getD 0) (LD p s) 0
def drawsTo (p : List Int) (s : Nat) : List Int := (List.range s).map (drawAt p)
def drawsL (p : List Int) : List Int := drawsTo p (p.length - 1)
theorem drawsTo_length (p : List Int) (s : Nat) : (drawsTo p s).length = s := by simp [drawsTo]
theorem LD_length (p : List Int) (s : Nat) : (LD p s).length = p.length := by
  induction s with
  | zero => exact idL_length _
  | succ s ih => unfold LD; rw [swapL_length, ih]
def Tail (p : List Int) (s : Nat) : Prop := ∀ k, p.length - 1 - s < k → k < p.length → (LD p s)[k]?.getD 0 = p[k]?.getD 0
theorem getD_of {l : List Int} {k : Nat} (h : k < l.length) : l[k]?.getD 0 = l[k] := by rw [List.getElem?_eq_getElem h]; rfl
theorem Perm.inj {l : List Int} (h : Perm l) {i j : Nat} (hi : i < l.length) (hj : j < l.length) (e : l[i]?.getD 0 = l[j]?.getD 0) : i = j := h.2 i j hi hj (by rw [← getD_of hi, ← getD_of hj]; exact e)
/-- one exchange: where the element stands, and what is so behind it -/
theorem draw_step {p : List Int} (hp : validB p = true) {s : Nat} (hs : s < p.length - 1) (hL : Perm (LD p s)) (ht : Tail p s) :
    ∃ j : Nat, drawAt p s = (j : Int) ∧ j ≤ p.length - 1 - s ∧ (LD p s)[j]?.getD 0 = p[p.length - 1 - s]?.getD 0 ∧ LD p (s + 1) = swapL (LD p s) (p.length - 1 - s) j ∧ Perm (LD p (s + 1)) ∧ Tail p (s + 1) := by
  have hi : p.length - 1 - s < p.length := by omega
  obtain ⟨x, hx, hxl⟩ := valid_at hp hi
  have hxl' : x < (LD p s).length := by rw [LD_length]; exact hxl
  obtain ⟨r, hr, e, er⟩ := place_valid ((valid_iff _).2 hL) hxl'
  have hr' : r < p.length := by rw [LD_length] at hr; exact hr
  have hd : drawAt p s = (r : Int) := by unfold drawAt; rw [hx]; exact e
  have hLr : (LD p s)[r]?.getD 0 = p[p.length - 1 - s]?.getD 0 := by rw [getD_of hr, er, hx]
  have hri : r ≤ p.length - 1 - s := by
    rcases Nat.lt_or_ge (p.length - 1 - s) r with h | h
    · have h1 := ht r h hr'
      have := ((valid_iff p).1 hp).inj hr' hi (h1.symm.trans hLr)
      omega
    · exact h
  have hS : LD p (s + 1) = swapL (LD p s) (p.length - 1 - s) r := by
    show swapL (LD p s) (p.length - 1 - s) (drawAt p s).toNat = _
    rw [hd]; rfl
  have hil : p.length - 1 - s < (LD p s).length := by rw [LD_length]; exact hi
  refine ⟨r, hd, hri, hLr, hS, by rw [hS]; exact hL.swap _ _ hil hr, fun k hk hkl => ?_⟩
  have hk1 : k < (swapL (LD p s) (p.length - 1 - s) r).length := by rw [swapL_length, LD_length]; exact hkl
  rw [hS, getD_of hk1, swapL_get _ _ _ _ hil hr]
  by_cases e1 : k = r
  · rw [if_pos e1]
    have : r = p.length - 1 - s := by omega
    rw [← this] at hLr
    rw [← getD_of hil, e1, ← this]
    exact hLr
  · rw [if_neg e1]
    by_cases e2 : k = p.length - 1 - s
    · rw [if_pos e2, ← getD_of hr, hLr, e2]
    · rw [if_neg e2, ← getD_of (by rw [LD_length]; exact hkl)]
      exact ht k (by omega) hkl
theorem LD_inv {p : List Int} (hp : validB p = true) (s : Nat) (hs : s ≤ p.length - 1) : Perm (LD p s) ∧ Tail p s := by
  induction s with
  | zero => exact ⟨perm_id _, fun k h1 h2 => by omega⟩
  | succ s ih =>
    obtain ⟨h1, h2⟩ := ih (by omega)
    obtain ⟨j, _, _, _, _, h3, h4⟩ := draw_step hp (by omega) h1 h2
    exact ⟨h3, h4⟩
theorem LD_last {p : List Int} (hp : validB p = true) : LD p (p.length - 1) = p := by
  obtain ⟨hL, ht⟩ := LD_inv hp (p.length - 1) (Nat.le_refl _)
  apply List.ext_getElem (LD_length _ _)
  intro k h1 h2
  rw [← getD_of h1, ← getD_of h2]
  rcases Nat.eq_zero_or_pos k with rfl | h0
  · have hx := hL.1 0 h1
    rw [LD_length] at hx
    obtain ⟨x, hxe⟩ := Int.eq_ofNat_of_zero_le hx.1
    obtain ⟨r, hr, _, er⟩ := place_valid hp (show x < p.length by omega)
    rcases Nat.eq_zero_or_pos r with rfl | h3
    · rw [getD_of h1, getD_of h2, hxe, er]
    · have h4 := ht r (by omega) hr
      have h5 : (LD p (p.length - 1))[r]?.getD 0 = (LD p (p.length - 1))[0]?.getD 0 := by rw [h4, getD_of hr, er, getD_of h1, hxe]
      have := hL.inj (by rw [LD_length]; exact hr) h1 h5
      omega
  · exact ht k (by omega) h2
theorem draws_at {p : List Int} {s m : Nat} (h : s < m) : (drawsTo p m)[s]?.getD 0 = drawAt p s := by
  rw [getD_of (by rw [drawsTo_length]; exact h)]
  simp [drawsTo]
theorem shuf_draws {p : List Int} (hp : validB p = true) (s : Nat) (hs : s ≤ p.length - 1) : shufTo (drawsL p) 0 p.length s = LD p s := by
  induction s with
  | zero => rfl
  | succ s ih =>
    obtain ⟨h1, h2⟩ := LD_inv hp s (by omega)
    obtain ⟨j, hd, hj, _, hS, _, _⟩ := draw_step hp (by omega) h1 h2
    rw [hS, ← ih (by omega)]
    show swapL _ _ ((((drawsL p)[0 + s]?.getD 0) % ((p.length - 1 - s : Nat) + 1 : Int)).toNat) = _
    rw [Nat.zero_add, show (drawsL p)[s]?.getD 0 = (j : Int) from (draws_at (by omega)).trans hd, Int.emod_eq_of_lt (by omega) (by omega)]
    rfl
theorem draws_make {p : List Int} (hp : validB p = true) : shufL (drawsL p) 0 p.length = p := (shuf_draws hp _ (Nat.le_refl _)).trans (LD_last hp)
theorem draws_range {p : List Int} (hp : validB p = true) (s : Nat) (hs : s ≤ p.length - 1) : ∀ z ∈ drawsTo p s, 0 ≤ z ∧ z < (p.length : Int) := by
  intro z hz
  unfold drawsTo at hz
  rw [List.mem_map] at hz
  obtain ⟨t, ht, rfl⟩ := hz
  have ht' := List.mem_range.1 ht
  obtain ⟨h1, h2⟩ := LD_inv hp t (by omega)
  obtain ⟨j, hd, hj, _⟩ := draw_step hp (by omega) h1 h2
  omega
theorem inv_id (n : Nat) : invL (idL n) = idL n := by
  unfold invL
  rw [idL_length]
  unfold idL
  apply List.map_congr_left
  intro i hi
  have h1 := placeR_at (perm_id n) i (by rw [idL_length]; exact List.mem_range.1 hi)
  rw [idL_get] at h1
  exact h1
theorem invL_at {l : List Int} (hl : Perm l) {v k : Nat} (hk : k < l.length) (e : l[k]?.getD 0 = (v : Int)) : (invL l)[v]?.getD 0 = (k : Int) := by
  rw [getD_of hk] at e
  have h1 := placeR_at hl k hk
  rw [e] at h1
  have hv : v < l.length := by have := hl.1 k hk; omega
  rw [getD_of (by rw [invL_length]; exact hv), invL_get, h1]
/-- the places behind an exchange -/
theorem inv_swap {l : List Int} (hl : Perm l) {i j x y : Nat} (hi : i < l.length) (hj : j < l.length) (hx : l[i]?.getD 0 = (x : Int)) (hy : l[j]?.getD 0 = (y : Int)) :
    ((invL l).set y (i : Int)).set x (j : Int) = invL (swapL l i j) := by
  have hP := hl.swap i j hi hj
  have hlen := swapL_length l i j
  apply List.ext_getElem
  · simp [invL_length, swapL_length]
  · intro v h1 h2
    have hv : v < l.length := by rw [invL_length, swapL_length] at h2; exact h2
    obtain ⟨r, hr, _, er⟩ := place_valid ((valid_iff _).2 hl) hv
    have key : ∀ k : Nat, k < l.length → (swapL l i j)[k]?.getD 0 = (v : Int) → (invL (swapL l i j))[v] = (k : Int) := fun k hk e => by
      rw [← getD_of h2]
      exact invL_at hP (by rw [hlen]; exact hk) e
    have hg : ∀ k : Nat, k < l.length → (swapL l i j)[k]?.getD 0 = if k = j then l[i]?.getD 0 else if k = i then l[j]?.getD 0 else l[k]?.getD 0 := fun k hk => by
      have hk' : k < (swapL l i j).length := by rw [hlen]; exact hk
      rw [getD_of hk', swapL_get _ _ _ _ hi hj hk', getD_of hi, getD_of hj, getD_of hk]
    rw [List.getElem_set, List.getElem_set]
    by_cases e1 : x = v
    · rw [if_pos e1, key j hj (by rw [hg j hj, if_pos rfl, hx, e1])]
    · rw [if_neg e1]
      have hri : r ≠ i := by
        rintro rfl
        rw [← getD_of hr, hx] at er
        omega
      by_cases e2 : y = v
      · have hij : ¬ i = j := by
          rintro rfl
          rw [hx] at hy
          omega
        rw [if_pos e2, key i hi (by rw [hg i hi, if_neg hij, if_pos rfl, hy, e2])]
      · rw [if_neg e2]
        have hrj : r ≠ j := by
          rintro rfl
          rw [← getD_of hr, hy] at er
          omega
        have hz : (invL l)[v]'(by rw [invL_length]; exact hv) = (r : Int) := by
          rw [← getD_of (by rw [invL_length]; exact hv)]
          exact invL_at hl hr (by rw [getD_of hr, er])
        rw [hz, key r hr (by rw [hg r hr, if_neg hrj, if_neg hri, getD_of hr, er])]
end Go.Proofs.Ytanfdajllhlcbaa
