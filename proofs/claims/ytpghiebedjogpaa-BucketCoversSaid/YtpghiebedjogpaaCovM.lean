/- What has been counted while buckets, segments and chunks are gone through: nothing here speaks of a program. -/
import Derived.Test.YtpghiebedjogpaaFndC
import Derived.Test.YtpghiebedjogpaaBucG
namespace Go.Proofs.Ytpghiebedjogpaa
open Go.RowKit
set_option linter.unusedVariables false
def covL (n : Nat) (lo mid hi : Int) : List Int := (List.range n).map fun (x : Nat) => if (lo ≤ (x : Int) ∧ (x : Int) < mid) ∨ hi ≤ (x : Int) then 1 else 0
theorem covL_length (n : Nat) (lo mid hi : Int) : (covL n lo mid hi).length = n := by simp [covL]
theorem covL_none (n : Nat) (a b h : Int) : covL n a a h = covL n b b h := by
  unfold covL
  apply List.map_congr_left
  intro x _
  congr 1
  rw [eq_iff_iff]
  omega
theorem covL_full (n : Nat) (lo hi : Int) (h : lo ≤ hi) : covL n lo hi hi = covL n lo lo lo := by
  unfold covL
  apply List.map_congr_left
  intro x _
  congr 1
  rw [eq_iff_iff]
  omega
theorem covL_zero (n : Nat) : (covL n n n n).map (Value.int .i64) = List.replicate (n * 1) (.int .i64 0) := by
  unfold covL
  apply List.ext_getElem
  · simp
  · intro i h1 h2
    have hi : i < n := by simpa using h2
    simp
    omega
theorem covL_at (n : Nat) (lo mid hi : Int) (i : Nat) (hi1 : i < n) (h1 : mid ≤ i) (h2 : (i : Int) < hi) : (covL n lo mid hi)[i]? = some 0 := by
  unfold covL
  rw [List.getElem?_map, List.getElem?_range hi1]
  simp
  omega
theorem covL_set (n : Nat) (lo hi : Int) (i : Nat) (hl : lo ≤ i) : ((covL n lo i hi).map (Value.int .i64)).set i (.int .i64 1) = (covL n lo ((i : Int) + 1) hi).map (Value.int .i64) := by
  unfold covL
  apply List.ext_getElem
  · simp
  · intro x h1 h2
    rw [List.getElem_set]
    simp only [List.getElem_map, List.getElem_range]
    by_cases e : i = x
    · subst e
      rw [if_pos rfl, if_pos (by omega)]
    · rw [if_neg e]
      congr 1
      by_cases h3 : (lo ≤ (x : Int) ∧ (x : Int) < i) ∨ hi ≤ (x : Int)
      · rw [if_pos h3, if_pos (by omega)]
      · rw [if_neg h3, if_neg (by omega)]
theorem covL_all (n : Nat) (i : Nat) (hi : i < n) : (covL n 0 0 0)[i]? = some 1 := by
  unfold covL
  rw [List.getElem?_map, List.getElem?_range hi]
  simp
/-! ### the bounds of each level -/
def cutB (n b : Int) (j : Nat) : Int := bl n b ((cntB n b).toNat - j)
theorem bucket_get (n b : Int) (hn : 0 ≤ n) (hb : 1 ≤ b) (j : Nat) (hj : j < (bucketsR n b).length) : (bucketsR n b)[j] = (cutB n b (j + 1), cutB n b j) := by
  have hlr : (bucketsR n b).length = (blocksR n b).length := by unfold bucketsR; simp
  have hl : (blocksR n b).length = (cntB n b).toNat := by unfold blocksR; rw [blTo_length]
  have e : bucketsR n b = (blocksR n b).reverse := rfl
  rw [get_of_eq e j hj (by rw [← e]; exact hj), List.getElem_reverse, blocks_get]
  unfold cutB
  rw [hl, show (cntB n b).toNat - 1 - j = (cntB n b).toNat - (j + 1) by omega, show (cntB n b).toNat - (j + 1) + 1 = (cntB n b).toNat - j by omega]
theorem buckets_len (n b : Int) : (bucketsR n b).length = (cntB n b).toNat := by
  unfold bucketsR blocksR
  rw [List.length_reverse, blTo_length]
theorem cutB_zero (n b : Int) (hn : 0 ≤ n) (hb : 1 ≤ b) : cutB n b 0 = n := by
  unfold cutB
  rw [Nat.sub_zero]
  by_cases h : n < 1
  · have : n = 0 := by omega
    subst this
    rw [cntB_out 0 b (by omega)]
    exact bl_zero 0 b (by omega)
  · apply bl_ge
    have h1 := (cntB_range n b).1
    have h2 := cntB_lt n b (cntB n b).toNat (by omega) hb
    omega
theorem cutB_end (n b : Int) (hn : 0 ≤ n) (j : Nat) (h : (cntB n b).toNat ≤ j) : cutB n b j = 0 := by
  unfold cutB
  rw [show (cntB n b).toNat - j = 0 by omega]
  exact bl_zero n b hn
theorem bl_step (n b : Int) (hb : 1 ≤ b) (hn : 0 ≤ n) (j : Nat) : 0 ≤ bl n b j ∧ bl n b j ≤ bl n b (j + 1) ∧ bl n b (j + 1) ≤ n := by
  unfold bl
  have h1 : 0 ≤ (j : Int) * b := Int.mul_nonneg (by omega) (by omega)
  have h2 : ((j + 1 : Nat) : Int) * b = j * b + b := by rw [Int.natCast_add, Int.add_mul]; simp
  omega
theorem cutB_step (n b : Int) (hb : 1 ≤ b) (hn : 0 ≤ n) (j : Nat) (h : j < (cntB n b).toNat) : 0 ≤ cutB n b (j + 1) ∧ cutB n b (j + 1) ≤ cutB n b j ∧ cutB n b j ≤ n := by
  unfold cutB
  have := bl_step n b hb hn ((cntB n b).toNat - (j + 1))
  rw [show (cntB n b).toNat - (j + 1) + 1 = (cntB n b).toNat - j by omega] at this
  exact this
theorem seg_bounds (lo hi k : Int) (h : lo ≤ hi) (hk : 1 ≤ k) : bnd (hi - lo) k 0 + lo = lo ∧ bnd (hi - lo) k k.toNat + lo = hi ∧ ∀ m, m < k.toNat → lo ≤ bnd (hi - lo) k m + lo ∧ bnd (hi - lo) k m ≤ bnd (hi - lo) k (m + 1) ∧ bnd (hi - lo) k (m + 1) + lo ≤ hi := by
  refine ⟨by rw [bnd_zero _ _ (by omega)]; omega, by rw [bnd_last _ _ (by omega)]; omega, fun m hm => ?_⟩
  have r0 := bnd_range (hi - lo) k m (by omega) (by omega) (by omega)
  have r1 := bnd_range (hi - lo) k (m + 1) (by omega) (by omega) (by omega)
  have := bnd_mono (hi - lo) k m (by omega) (by omega)
  omega
theorem chu_len (lo hi s : Int) : (chuR lo hi s).length = (cntB (hi - lo) s).toNat := by
  unfold chuR blocksR
  rw [shiftR_length, blTo_length]
theorem chu_last (lo hi s : Int) (h : lo ≤ hi) (hs : 1 ≤ s) : bl (hi - lo) s (chuR lo hi s).length + lo = hi := by
  rw [chu_len]
  have := cutB_zero (hi - lo) s (by omega) hs
  unfold cutB at this
  rw [Nat.sub_zero] at this
  omega
/-- where an index of a chunk lies -/
theorem place_is {n b k c : Int} (hn : 0 ≤ n) (hb : 1 ≤ b) (hk : 1 ≤ k) (hc : 1 ≤ c) {j m t : Nat} {i : Int} (hj : j < (bucketsR n b).length) {lo hi : Int} (hlo : lo = cutB n b (j + 1)) (hhi : hi = cutB n b j) (hm : m < k.toNat) {sl sh : Int} (hsl : sl = bnd (hi - lo) k m + lo) (hsh : sh = bnd (hi - lo) k (m + 1) + lo)
    (ht1 : bl (sh - sl) c t + sl ≤ i) (ht2 : i < bl (sh - sl) c (t + 1) + sl) :
    ∃ q kk m' lo' hi' sl' sh', Lies i n b k c q kk m' lo' hi' sl' sh' ∧ kk = j ∧ m' = m ∧ (i - sl') / c = (t : Int) := by
  have hj' : j < (cntB n b).toNat := by rw [← buckets_len]; exact hj
  have h1 := cutB_step n b hb hn j hj'
  have h2 := (seg_bounds lo hi k (by omega) hk).2.2 m hm
  have h3 := bl_step (sh - sl) c hc (by omega) t
  have hok : Ok5 i n b k c := ⟨by omega, by omega, hb, hk, hc⟩
  obtain ⟨q, kk, m', lo', hi', sl', sh', L⟩ := lies_of hok
  have hkk : kk = j := by
    have f1 := find_at i (bucketsR n b) 0 j hj (by rw [bucket_get n b hn hb j hj]; dsimp only; omega) (fun u hu => by
      rw [bucket_get n b hn hb u (by omega)]
      dsimp only
      have key : ∀ d : Nat, u + 1 + d ≤ (cntB n b).toNat → cutB n b (u + 1 + d) ≤ cutB n b (u + 1) := by
        intro d
        induction d with
        | zero => intro _; exact Int.le_refl _
        | succ d ih =>
          intro hd
          have := ih (by omega)
          have := (cutB_step n b hb hn (u + 1 + d) (by omega)).2.1
          rw [show u + 1 + (d + 1) = u + 1 + d + 1 by omega]
          omega
      have := key (j - (u + 1)) (by omega)
      rw [show u + 1 + (j - (u + 1)) = j by omega] at this
      omega)
    rw [L.kf] at f1
    omega
  subst hkk
  have hbk := L.kb
  rw [bucket_get n b hn hb kk hj] at hbk
  have e1 : lo' = lo := by rw [hlo]; exact (Prod.mk.inj hbk).1.symm
  have e2 : hi' = hi := by rw [hhi]; exact (Prod.mk.inj hbk).2.symm
  have hmm : m' = m := by
    have hml : m < (segR lo hi k).length := by rw [segR_length _ _ _ (by omega) hk]; exact hm
    have f1 := find_at i (segR lo hi k) 0 m hml (by rw [seg_get lo hi k (by omega) hk m hml]; dsimp only; omega) (fun u hu => by
      rw [seg_get lo hi k (by omega) hk u (by omega)]
      dsimp only
      have := bnd_mono_le (hi - lo) k (by omega) (by omega) (u + 1) m (by omega)
      omega)
    have := L.mf
    rw [e1, e2] at this
    rw [this] at f1
    omega
  have hsb := L.mb
  refine ⟨q, kk, m', lo', hi', sl', sh', L, rfl, hmm, ?_⟩
  have esl : sl' = sl := by
    subst e1 e2 hmm
    rw [seg_get _ _ k (by omega) hk m' L.ml] at hsb
    rw [hsl]; exact (Prod.mk.inj hsb).1.symm
  rw [esl]
  have e5 : ((t + 1 : Nat) : Int) * c = t * c + c := by rw [Int.natCast_add, Int.add_mul]; simp
  have b1 : (t : Int) * c ≤ i - sl := by
    have := ht1; have hlt := ht2
    unfold bl at this hlt
    omega
  have b2 : i - sl < (t : Int) * c + c := by
    have := ht2
    unfold bl at this
    omega
  have h9 := Int.mul_ediv_add_emod (i - sl) c
  have h10 := Int.emod_nonneg (i - sl) (show c ≠ 0 by omega)
  have h11 := Int.emod_lt_of_pos (i - sl) (show 0 < c by omega)
  have g1 : (t : Int) ≤ (i - sl) / c := (Int.le_ediv_iff_mul_le (by omega)).2 b1
  have g2 : (i - sl) / c < (t : Int) + 1 := (Int.ediv_lt_iff_lt_mul (by omega)).2 (by rw [Int.add_mul, Int.one_mul]; exact b2)
  omega
end Go.Proofs.Ytpghiebedjogpaa
