/- Where an index lies among buckets, segments and chunks, as plain lists: nothing here speaks of a program. -/
import Derived.Test.YtpghiebedjogpaaBucF
namespace Go.Proofs.Ytpghiebedjogpaa
open Go.RowKit
set_option linter.unusedVariables false
theorem find_at (x : Int) (rs : List (Int × Int)) (k j : Nat) (hj : j < rs.length) (h : rs[j].1 ≤ x ∧ x < rs[j].2) (hn : ∀ (m : Nat) (hm : m < j), ¬ ((rs[m]'(by omega)).1 ≤ x ∧ x < (rs[m]'(by omega)).2)) : findR x rs k = ((k + j : Nat) : Int) := by
  induction rs generalizing k j with
  | nil => cases hj
  | cons r rs ih =>
    simp only [findR]
    cases j with
    | zero =>
      simp only [List.getElem_cons_zero] at h
      rw [if_pos h]; simp
    | succ j =>
      have h0 := hn 0 (by omega)
      simp only [List.getElem_cons_zero] at h0
      simp only [List.getElem_cons_succ] at h
      rw [if_neg h0, ih (k + 1) j (by simpa using hj) h (fun m hm => by have := hn (m + 1) (by omega); simpa only [List.getElem_cons_succ] using this)]
      congr 1
      omega
theorem find_no (x : Int) (rs : List (Int × Int)) (k : Nat) (h : ∀ q ∈ rs, ¬ (q.1 ≤ x ∧ x < q.2)) : findR x rs k = -1 := by
  induction rs generalizing k with
  | nil => rfl
  | cons q rs ih => simp only [findR]; rw [if_neg (h q (by simp)), ih _ (fun y hy => h y (by simp [hy]))]
theorem get_of_eq {α : Type} {l l' : List α} (e : l = l') (i : Nat) (h : i < l.length) (h' : i < l'.length) : l[i] = l'[i] := by
  subst e; rfl
/-! ### blocks, the last one first -/
theorem blocks_get (n s : Int) (j : Nat) (h : j < (blocksR n s).length) : (blocksR n s)[j] = (bl n s j, bl n s (j + 1)) := by
  have e : blocksR n s = (List.range (cntB n s).toNat).map fun j => (bl n s j, bl n s (j + 1)) := rfl
  rw [get_of_eq e j h (by rw [← e]; exact h)]
  simp
theorem bl_le (n s : Int) (j : Nat) : bl n s j ≤ n ∧ bl n s j ≤ j * s := by unfold bl; omega
theorem block_at (n b i : Int) (h0 : 0 ≤ i) (h1 : i < n) (hb : 1 ≤ b) : ∃ q : Nat, i / b = (q : Int) ∧ (q : Int) < cntB n b ∧ bl n b q = q * b ∧ (q : Int) * b ≤ i ∧ i < (q + 1) * b ∧ bl n b (q + 1) = q * b + min b (n - q * b) := by
  have e1 := Int.ediv_nonneg h0 (show 0 ≤ b by omega)
  obtain ⟨q, hq⟩ := Int.eq_ofNat_of_zero_le e1
  have e2 := Int.mul_ediv_add_emod i b
  have e3 := Int.emod_nonneg i (show b ≠ 0 by omega)
  have e4 := Int.emod_lt_of_pos i (show 0 < b by omega)
  rw [hq, Int.mul_comm] at e2
  have e5 : ((q : Int) + 1) * b = q * b + b := by rw [Int.add_mul, Int.one_mul]
  refine ⟨q, hq, (cntB_lt n b q (by omega) hb).2 (by omega), bl_lt n b q (by omega), by omega, by omega, ?_⟩
  unfold bl
  rw [show ((q + 1 : Nat) : Int) = (q : Int) + 1 by omega, e5]
  omega
theorem find_bucket (n b i : Int) (h0 : 0 ≤ i) (h1 : i < n) (hb : 1 ≤ b) (q : Nat) (hq : i / b = (q : Int)) :
    ∃ k : Nat, ∃ hk : k < (bucketsR n b).length, findR i (bucketsR n b) 0 = (k : Int) ∧ (k : Int) = cntB n b - 1 - q ∧ (bucketsR n b)[k] = ((q : Int) * b, q * b + min b (n - q * b)) := by
  obtain ⟨q', hq', hc, e1, e2, e3, e4⟩ := block_at n b i h0 h1 hb
  have : q = q' := by omega
  subst this
  have hl := blocksR_length n b
  have hlr : (bucketsR n b).length = (blocksR n b).length := by unfold bucketsR; simp
  have hget : ∀ (m : Nat) (hm : m < (bucketsR n b).length), (bucketsR n b)[m] = (bl n b ((blocksR n b).length - 1 - m), bl n b ((blocksR n b).length - 1 - m + 1)) := by
    intro m hm
    have e : bucketsR n b = (blocksR n b).reverse := rfl
    rw [get_of_eq e m hm (by rw [← e]; exact hm), List.getElem_reverse, blocks_get]
  have hkl : (blocksR n b).length - 1 - q < (bucketsR n b).length := by omega
  have e5 : ((q : Int) + 1) * b = q * b + b := by rw [Int.add_mul, Int.one_mul]
  have hki : (blocksR n b).length - 1 - ((blocksR n b).length - 1 - q) = q := by omega
  have hv := hget _ hkl
  rw [hki] at hv
  refine ⟨(blocksR n b).length - 1 - q, hkl, ?_, by omega, by rw [hv, e1, e4]⟩
  have h := find_at i (bucketsR n b) 0 _ hkl (by rw [hv]; dsimp only; omega) (fun m hm => by
    rw [hget m (by omega)]
    dsimp only
    have h2 : q + 1 ≤ (blocksR n b).length - 1 - m := by omega
    generalize (blocksR n b).length - 1 - m = t at h2
    have h3 : ((q : Int) + 1) * b ≤ (t : Int) * b := Int.mul_le_mul_of_nonneg_right (by omega) (by omega)
    unfold bl
    omega)
  rw [h]
  simp
theorem find_bucket_no (n b i : Int) (h : i < 0 ∨ n ≤ i ∨ b < 1) : findR i (bucketsR n b) 0 = -1 := by
  refine find_no i _ 0 ?_
  intro r hr
  unfold bucketsR at hr
  rw [List.mem_reverse] at hr
  by_cases hs : n < 1 ∨ b < 1
  · rw [blocksR_out n b hs] at hr; cases hr
  · obtain ⟨j, hj, rfl⟩ := List.getElem_of_mem hr
    rw [blocks_get]
    dsimp only
    have h1 := bl_le n b (j + 1)
    have h2 : 0 ≤ (j : Int) * b := Int.mul_nonneg (by omega) (by omega)
    have h3 : 0 ≤ bl n b j := by unfold bl; omega
    omega
/-! ### segments -/
theorem bnd_mono_le (n k : Int) (hn : 0 ≤ n) (hk : 0 < k) (i j : Nat) (h : i ≤ j) : bnd n k i ≤ bnd n k j := by
  induction j with
  | zero => rw [Nat.le_zero.1 h]; omega
  | succ j ih =>
    by_cases e : i = j + 1
    · rw [e]; omega
    · have := ih (by omega); have := bnd_mono n k j hn hk; omega
theorem bnd_find (n k : Int) (x : Int) (K : Nat) (h0 : bnd n k 0 ≤ x) (h1 : x < bnd n k K) : ∃ m, m < K ∧ bnd n k m ≤ x ∧ x < bnd n k (m + 1) := by
  induction K with
  | zero => omega
  | succ K ih =>
    by_cases h : bnd n k K ≤ x
    · exact ⟨K, by omega, h, h1⟩
    · obtain ⟨m, h2, h3⟩ := ih (by omega)
      exact ⟨m, by omega, h3⟩
theorem seg_get (lo hi k : Int) (h : lo ≤ hi) (hk : 1 ≤ k) (m : Nat) (hm : m < (segR lo hi k).length) : (segR lo hi k)[m] = (bnd (hi - lo) k m + lo, bnd (hi - lo) k (m + 1) + lo) := by
  unfold segR shiftR
  simp only [List.getElem_map, evenR_in _ _ (show 0 ≤ hi - lo by omega) (show 0 < k by omega), List.getElem_range]
theorem find_seg (lo hi k i : Int) (h0 : lo ≤ i) (h1 : i < hi) (hk : 1 ≤ k) :
    ∃ m : Nat, ∃ hm : m < (segR lo hi k).length, findR i (segR lo hi k) 0 = (m : Int) ∧ lo ≤ ((segR lo hi k)[m]).1 ∧ ((segR lo hi k)[m]).1 ≤ i ∧ i < ((segR lo hi k)[m]).2 ∧ ((segR lo hi k)[m]).2 ≤ hi := by
  have hz := bnd_zero (hi - lo) k (by omega)
  have hl := bnd_last (hi - lo) k (by omega)
  obtain ⟨m, h2, h3, h4⟩ := bnd_find (hi - lo) k (i - lo) k.toNat (by omega) (by omega)
  have hm : m < (segR lo hi k).length := by rw [segR_length _ _ _ (by omega) hk]; exact h2
  have hv := seg_get lo hi k (by omega) hk m hm
  have r0 := bnd_range (hi - lo) k m (by omega) (by omega) (by omega)
  have r1 := bnd_range (hi - lo) k (m + 1) (by omega) (by omega) (by omega)
  have h := find_at i (segR lo hi k) 0 m hm (by rw [hv]; dsimp only; omega) (fun t ht => by
    rw [seg_get lo hi k (by omega) hk t (by omega)]
    dsimp only
    have := bnd_mono_le (hi - lo) k (by omega) (by omega) (t + 1) m (by omega)
    omega)
  refine ⟨m, hm, by rw [h]; simp, ?_⟩
  rw [hv]
  dsimp only
  omega
/-! ### chunks -/
theorem chu_get (lo hi s : Int) (m : Nat) (hm : m < (chuR lo hi s).length) : (chuR lo hi s)[m] = (bl (hi - lo) s m + lo, bl (hi - lo) s (m + 1) + lo) := by
  have e : chuR lo hi s = (blocksR (hi - lo) s).map fun r => (r.1 + lo, r.2 + lo) := rfl
  rw [get_of_eq e m hm (by rw [← e]; exact hm)]
  simp only [List.getElem_map, blocks_get]
theorem find_chu (lo hi s i : Int) (h0 : lo ≤ i) (h1 : i < hi) (hs : 1 ≤ s) : findR i (chuR lo hi s) 0 = (i - lo) / s := by
  obtain ⟨q, hq, hc, e1, e2, e3, e4⟩ := block_at (hi - lo) s (i - lo) (by omega) (by omega) hs
  have hl := blocksR_length (hi - lo) s
  have hm : q < (chuR lo hi s).length := by unfold chuR; rw [shiftR_length]; omega
  have hv := chu_get lo hi s q hm
  have e5 : ((q : Int) + 1) * s = q * s + s := by rw [Int.add_mul, Int.one_mul]
  have h := find_at i (chuR lo hi s) 0 q hm (by rw [hv]; dsimp only; omega) (fun t ht => by
    rw [chu_get lo hi s t (by omega)]
    dsimp only
    have h3 : ((t : Int) + 1) * s ≤ (q : Int) * s := Int.mul_le_mul_of_nonneg_right (by omega) (by omega)
    have := (bl_le (hi - lo) s (t + 1)).2
    rw [show ((t + 1 : Nat) : Int) = (t : Int) + 1 by omega] at this
    omega)
  rw [h, hq]
  simp
end Go.Proofs.Ytpghiebedjogpaa
