/- Plain mathematics of updates: element by element. -/
import Derived.Test.YtmffgbmjomaehaaVecP
namespace Go.Proofs.Ytmffgbmjomaehaa
open Go.RowKit
set_option linter.unusedVariables false
/-- the first k elements are put together with those of another list -/
def zipP (f : Int → Int → Int) (zs ys : List Int) (k : Nat) : List Int := List.zipWith f (zs.take k) (ys.take k) ++ zs.drop k
theorem zipP_zero (f : Int → Int → Int) (zs ys : List Int) : zipP f zs ys 0 = zs := by unfold zipP; simp
theorem zipP_all (f : Int → Int → Int) (zs ys : List Int) (h : zs.length = ys.length) : zipP f zs ys zs.length = List.zipWith f zs ys := by
  unfold zipP
  rw [List.take_length, h, List.take_length, ← h, List.drop_length, List.append_nil]
theorem zipP_length (f : Int → Int → Int) (zs ys : List Int) (h : zs.length = ys.length) (k : Nat) : (zipP f zs ys k).length = zs.length := by
  unfold zipP
  simp [h]
  omega
theorem zip_get (f : Int → Int → Int) (zs ys : List Int) (i : Nat) (h1 : i < zs.length) (h2 : i < ys.length) : (List.zipWith f zs ys)[i]? = some (f (zs[i]?.getD 0) (ys[i]?.getD 0)) := by
  rw [List.getElem?_zipWith, List.getElem?_eq_getElem h1, List.getElem?_eq_getElem h2]
  rfl
theorem zipP_get (f : Int → Int → Int) (zs ys : List Int) (k i : Nat) (h : zs.length = ys.length) (hk : k ≤ zs.length) (hi : i < zs.length) : (zipP f zs ys k)[i]? = some (if i < k then f (zs[i]?.getD 0) (ys[i]?.getD 0) else zs[i]?.getD 0) := by
  unfold zipP
  by_cases hik : i < k
  · rw [List.getElem?_append_left (by simp; omega), zip_get _ _ _ _ (by simp; omega) (by simp; omega), if_pos hik, List.getElem?_take, List.getElem?_take, if_pos hik, if_pos hik]
  · rw [List.getElem?_append_right (by simp; omega), if_neg hik, List.getElem?_drop]
    have e : k + (i - (List.zipWith f (zs.take k) (ys.take k)).length) = i := by simp; omega
    rw [e, List.getElem?_eq_getElem hi]
    rfl
theorem zipP_set (f : Int → Int → Int) (zs ys : List Int) (k : Nat) (h : zs.length = ys.length) (hk : k < zs.length) : (zipP f zs ys k).set k (f (zs[k]?.getD 0) (ys[k]?.getD 0)) = zipP f zs ys (k + 1) := by
  apply List.ext_getElem?
  intro i
  by_cases hi : i < zs.length
  · rw [zipP_get f zs ys (k + 1) i h (by omega) hi, List.getElem?_set]
    by_cases e : k = i
    · subst e
      rw [if_pos rfl, zipP_length f zs ys h, if_pos hk, if_pos (by omega)]
    · rw [if_neg e, zipP_get f zs ys k i h (by omega) hi]
      congr 1
      by_cases h1 : i < k
      · rw [if_pos h1, if_pos (by omega)]
      · rw [if_neg h1, if_neg (by omega)]
  · rw [List.getElem?_eq_none (by rw [List.length_set, zipP_length f zs ys h]; omega), List.getElem?_eq_none (by rw [zipP_length f zs ys h]; omega)]
def subW (x y : Int) : Int := wrap64 (x - y)
def subL (zs ys : List Int) : List Int := List.zipWith subW zs ys
theorem subL_length (zs ys : List Int) (h : zs.length = ys.length) : (subL zs ys).length = zs.length := by unfold subL; simp [h]
theorem subL_word (zs ys : List Int) : ∀ z ∈ subL zs ys, Word z := by
  unfold subL
  induction zs generalizing ys with
  | nil => simp
  | cons x xs ih =>
    cases ys with
    | nil => simp
    | cons y ys =>
      simp only [List.zipWith_cons_cons, List.mem_cons, forall_eq_or_imp]
      exact ⟨word_wrap _, ih ys⟩
theorem scaleL_word (zs : List Int) (a q : Int) : ∀ z ∈ scaleL zs a q, Word z := by
  intro z hz
  unfold scaleL at hz
  rw [List.mem_map] at hz
  obtain ⟨x, _, rfl⟩ := hz
  exact mulq_range _ _ _
/-- what a step makes -/
def nextM (zM g : List Int) (mom q : Int) : List Int := addL (scaleL zM mom q) g
def nextP (zP m : List Int) (rate q : Int) : List Int := subL zP (scaleL m rate q)
theorem nextM_length (zM g : List Int) (mom q : Int) (h : zM.length = g.length) : (nextM zM g mom q).length = g.length := by
  unfold nextM
  rw [addL_length _ _ (by unfold scaleL; simpa using h)]
  unfold scaleL
  simpa using h
theorem nextP_length (zP m : List Int) (rate q : Int) (h : zP.length = m.length) : (nextP zP m rate q).length = zP.length := by
  unfold nextP
  rw [subL_length _ _ (by unfold scaleL; simpa using h)]
theorem nextM_word (zM g : List Int) (mom q : Int) : ∀ z ∈ nextM zM g mom q, Word z := addL_word _ _
theorem nextP_word (zP m : List Int) (rate q : Int) : ∀ z ∈ nextP zP m rate q, Word z := subL_word _ _
theorem nextM_get (zM g : List Int) (mom q : Int) (i : Nat) (h1 : i < zM.length) (h2 : i < g.length) : (nextM zM g mom q)[i]?.getD 0 = wrap64 (mulq mom (zM[i]?.getD 0) q + g[i]?.getD 0) := by
  unfold nextM
  rw [addL_get _ _ i (by unfold scaleL; simpa using h1) h2, Option.getD_some]
  unfold scaleL
  rw [List.getElem?_map, List.getElem?_eq_getElem h1]
  simp only [Option.map_some, Option.getD_some]
  rw [mulq_comm]
theorem nextP_get (zP m : List Int) (rate q : Int) (i : Nat) (h1 : i < zP.length) (h2 : i < m.length) : (nextP zP m rate q)[i]?.getD 0 = wrap64 (zP[i]?.getD 0 - mulq rate (m[i]?.getD 0) q) := by
  unfold nextP subL
  rw [zip_get _ _ _ i h1 (by unfold scaleL; simpa using h2), Option.getD_some]
  unfold scaleL subW
  rw [List.getElem?_map, List.getElem?_eq_getElem h2]
  simp only [Option.map_some, Option.getD_some]
  rw [mulq_comm]
theorem take_snoc (l : List Int) (k : Nat) (h : k < l.length) : l.take (k + 1) = l.take k ++ [l[k]?.getD 0] := by
  rw [List.take_add_one, List.getElem?_eq_getElem h]
  rfl
end Go.Proofs.Ytmffgbmjomaehaa
