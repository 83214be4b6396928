/- Plain mathematics of vectors: sums element by element, the first difference, the hash. -/
import Derived.RowKit
import Derived.IntWalk
namespace Go.Proofs.YtcnabebcckbfkaaDoor
open Go.RowKit

/-! ### sums -/
def addL (zs ys : List Int) : List Int := List.zipWith (fun x y => wrap64 (x + y)) zs ys
/-- the first k elements are summed -/
def addP (zs ys : List Int) (k : Nat) : List Int := addL (zs.take k) (ys.take k) ++ zs.drop k
theorem addP_zero (zs ys : List Int) : addP zs ys 0 = zs := by unfold addP addL; simp
theorem addL_length (zs ys : List Int) (h : zs.length = ys.length) : (addL zs ys).length = zs.length := by unfold addL; simp [h]
theorem addP_all (zs ys : List Int) (h : zs.length = ys.length) : addP zs ys zs.length = addL zs ys := by
  unfold addP
  rw [List.take_length, h, List.take_length, ← h, List.drop_length, List.append_nil]
theorem addP_length (zs ys : List Int) (h : zs.length = ys.length) (k : Nat) : (addP zs ys k).length = zs.length := by
  unfold addP addL
  simp [h]
  omega
theorem addL_get (zs ys : List Int) (i : Nat) (h1 : i < zs.length) (h2 : i < ys.length) : (addL zs ys)[i]? = some (wrap64 (zs[i]?.getD 0 + ys[i]?.getD 0)) := by
  unfold addL
  rw [List.getElem?_zipWith, List.getElem?_eq_getElem h1, List.getElem?_eq_getElem h2]
  rfl
theorem addP_get (zs ys : List Int) (k i : Nat) (h : zs.length = ys.length) (hk : k ≤ zs.length) (hi : i < zs.length) : (addP zs ys k)[i]? = some (if i < k then wrap64 (zs[i]?.getD 0 + ys[i]?.getD 0) else zs[i]?.getD 0) := by
  unfold addP
  by_cases hik : i < k
  · rw [List.getElem?_append_left (by unfold addL; simp; omega), addL_get _ _ _ (by simp; omega) (by simp; omega), if_pos hik, List.getElem?_take, List.getElem?_take, if_pos hik, if_pos hik]
  · rw [List.getElem?_append_right (by unfold addL; simp; omega), if_neg hik, List.getElem?_drop]
    have e : k + (i - (addL (zs.take k) (ys.take k)).length) = i := by unfold addL; simp; omega
    rw [e, List.getElem?_eq_getElem hi]
    rfl
theorem addP_set (zs ys : List Int) (k : Nat) (h : zs.length = ys.length) (hk : k < zs.length) : (addP zs ys k).set k (wrap64 (zs[k]?.getD 0 + ys[k]?.getD 0)) = addP zs ys (k + 1) := by
  apply List.ext_getElem?
  intro i
  by_cases hi : i < zs.length
  · rw [addP_get zs ys (k + 1) i h (by omega) hi, List.getElem?_set]
    by_cases e : k = i
    · subst e
      rw [if_pos rfl, addP_length zs ys h, if_pos hk, if_pos (by omega)]
    · rw [if_neg e, addP_get zs ys k i h (by omega) hi]
      congr 1
      by_cases h1 : i < k
      · rw [if_pos h1, if_pos (by omega)]
      · rw [if_neg h1, if_neg (by omega)]
  · rw [List.getElem?_eq_none (by rw [List.length_set, addP_length zs ys h]; omega), List.getElem?_eq_none (by rw [addP_length zs ys h]; omega)]
def Word (z : Int) : Prop := -9223372036854775808 ≤ z ∧ z ≤ 9223372036854775807
theorem word_wrap (z : Int) : Word (wrap64 z) := by unfold Word wrap64; omega
theorem addL_word (zs ys : List Int) : ∀ z ∈ addL zs ys, Word z := by
  unfold addL
  induction zs generalizing ys with
  | nil => simp
  | cons x xs ih =>
    cases ys with
    | nil => simp
    | cons y ys =>
      simp only [List.zipWith_cons_cons, List.mem_cons, forall_eq_or_imp]
      exact ⟨word_wrap _, ih ys⟩
theorem addL_comm (zs ys : List Int) : addL zs ys = addL ys zs := by
  unfold addL
  induction zs generalizing ys with
  | nil => simp
  | cons x xs ih =>
    cases ys with
    | nil => simp
    | cons y ys => simp only [List.zipWith_cons_cons, ih, Int.add_comm]
theorem addL_assoc (a b c : List Int) : addL (addL a b) c = addL a (addL b c) := by
  unfold addL
  induction a generalizing b c with
  | nil => simp
  | cons x xs ih =>
    cases b with
    | nil => simp
    | cons y ys =>
      cases c with
      | nil => simp
      | cons z zs =>
        simp only [List.zipWith_cons_cons, ih]
        congr 1
        unfold wrap64
        omega

/-! ### the first difference -/
def differ : Int → List Int → List Int → Int
  | _, [], [] => -1
  | i, [], _ :: _ => i
  | i, _ :: _, [] => i
  | i, x :: xs, y :: ys => if x = y then differ (i + 1) xs ys else i
theorem differ_self (i : Int) (zs : List Int) : differ i zs zs = -1 := by
  induction zs generalizing i with
  | nil => rfl
  | cons x xs ih => simp only [differ, if_true]; exact ih _
theorem differ_step (zs ys : List Int) (k : Nat) (h1 : k < zs.length) (h2 : k < ys.length) (h : zs[k]?.getD 0 = ys[k]?.getD 0) : differ k (zs.drop k) (ys.drop k) = differ ((k + 1 : Nat) : Int) (zs.drop (k + 1)) (ys.drop (k + 1)) := by
  rw [List.drop_eq_getElem_cons h1, List.drop_eq_getElem_cons h2]
  rw [List.getElem?_eq_getElem h1, List.getElem?_eq_getElem h2] at h
  simp only [Option.getD_some] at h
  simp only [differ]
  rw [if_pos h]
  rfl
theorem differ_at (zs ys : List Int) (k : Nat) (h1 : k < zs.length) (h2 : k < ys.length) (h : zs[k]?.getD 0 ≠ ys[k]?.getD 0) : differ k (zs.drop k) (ys.drop k) = k := by
  rw [List.drop_eq_getElem_cons h1, List.drop_eq_getElem_cons h2]
  rw [List.getElem?_eq_getElem h1, List.getElem?_eq_getElem h2] at h
  simp only [Option.getD_some] at h
  simp only [differ]
  rw [if_neg h]
theorem differ_left (zs ys : List Int) (k : Nat) (h1 : k < zs.length) (h2 : ys.length = k) : differ k (zs.drop k) (ys.drop k) = k := by
  rw [List.drop_eq_getElem_cons h1, List.drop_of_length_le (l := ys) (by omega)]
  rfl
theorem differ_right (zs ys : List Int) (k : Nat) (h1 : k < ys.length) (h2 : zs.length = k) : differ k (zs.drop k) (ys.drop k) = k := by
  rw [List.drop_eq_getElem_cons h1, List.drop_of_length_le (l := zs) (by omega)]
  rfl
theorem differ_end (zs ys : List Int) (k : Nat) (h1 : zs.length = k) (h2 : ys.length = k) : differ k (zs.drop k) (ys.drop k) = -1 := by
  rw [List.drop_of_length_le (by omega), List.drop_of_length_le (by omega)]
  rfl
theorem differ_range (i : Int) (zs ys : List Int) (hi : 0 ≤ i) : -1 ≤ differ i zs ys ∧ differ i zs ys ≤ i + zs.length := by
  induction zs generalizing i ys with
  | nil =>
    cases ys with
    | nil => simp [differ]; omega
    | cons y ys => simp [differ]; omega
  | cons x xs ih =>
    cases ys with
    | nil => simp [differ]; omega
    | cons y ys =>
      simp only [differ]
      split
      · have := ih (i + 1) ys (by omega)
        simp only [List.length_cons]
        omega
      · simp only [List.length_cons]; omega
theorem differ_same {i : Int} {zs ys : List Int} (hi : 0 ≤ i) (h : differ i zs ys < 0) : zs = ys := by
  induction zs generalizing i ys with
  | nil =>
    cases ys with
    | nil => rfl
    | cons y ys => simp [differ] at h; omega
  | cons x xs ih =>
    cases ys with
    | nil => simp [differ] at h; omega
    | cons y ys =>
      simp only [differ] at h
      split at h
      · rename_i e
        rw [e, ih (by omega) h]
      · omega
def sameL (zs ys : List Int) : Bool := decide (differ 0 zs ys < 0)
theorem sameL_iff (zs ys : List Int) : sameL zs ys = decide (zs = ys) := by
  unfold sameL
  by_cases h : zs = ys
  · subst h
    rw [differ_self]
    simp
  · rw [decide_eq_false h, decide_eq_false]
    exact fun k => h (differ_same (by omega) k)
theorem sameL_self (zs : List Int) : sameL zs zs = true := by rw [sameL_iff]; simp

/-! ### few -/
def lens : List (List Int) → Nat
  | [] => 0
  | zs :: r => min zs.length 2000 + lens r
theorem lens_snoc (l : List (List Int)) (zs : List Int) : lens (l ++ [zs]) = lens l + min zs.length 2000 := by
  induction l with
  | nil => simp [lens]
  | cons a l ih => simp only [List.cons_append, lens, ih]; omega
theorem lens_take (l : List (List Int)) (k : Nat) (h : k < l.length) : lens (l.take (k + 1)) = lens (l.take k) + min (l[k]?.getD []).length 2000 := by
  rw [List.take_add_one, List.getElem?_eq_getElem h]
  exact lens_snoc _ _
theorem lens_le (l : List (List Int)) : lens l ≤ 2000 * l.length := by
  induction l with
  | nil => simp [lens]
  | cons a l ih => simp only [lens, List.length_cons]; omega
theorem lens_mem {l : List (List Int)} {zs : List Int} (h : zs ∈ l) : min zs.length 2000 ≤ lens l := by
  induction l with
  | nil => cases h
  | cons a l ih =>
    simp only [lens]
    rcases List.mem_cons.1 h with rfl | h
    · omega
    · have := ih h; omega
def fewB (l : List (List Int)) : Bool := decide (l.length ≤ 60) && decide (lens (l.take 100) ≤ 1500)
theorem fewB_true {l : List (List Int)} (h : fewB l = true) : l.length ≤ 60 ∧ ∀ zs ∈ l, zs.length ≤ 1500 := by
  unfold fewB at h
  simp only [Bool.and_eq_true, decide_eq_true_eq] at h
  refine ⟨h.1, fun zs hz => ?_⟩
  rw [List.take_of_length_le (by omega)] at h
  have := lens_mem hz
  omega

/-! ### the hash -/
def hB : Int := 1099511628211
def hM : Int := 18446744073709551616
/-- the hash as an integer -/
def hashZ : Int → List Int → Int
  | h, [] => h
  | h, x :: xs => hashZ ((h + x) * hB) xs
def hpow : Nat → Int
  | 0 => 1
  | n + 1 => hpow n * hB
/-- the elements' part -/
def hsum : List Int → Int
  | [] => 0
  | x :: xs => x * hpow (xs.length + 1) + hsum xs
theorem hashZ_eq (h : Int) (zs : List Int) : hashZ h zs = h * hpow zs.length + hsum zs := by
  induction zs generalizing h with
  | nil => simp [hashZ, hpow, hsum]
  | cons x xs ih =>
    simp only [hashZ, hsum, List.length_cons, hpow]
    rw [ih, Int.mul_assoc, Int.mul_comm hB, Int.add_mul]
    omega
theorem hashZ_snoc (h : Int) (zs : List Int) (x : Int) : hashZ h (zs ++ [x]) = (hashZ h zs + x) * hB := by
  induction zs generalizing h with
  | nil => rfl
  | cons y ys ih => simp only [List.cons_append, hashZ, ih]
def hashL (zs : List Int) : Int := hashZ 1 zs % hM
theorem hashL_nil : hashL [] = 1 := by decide
theorem hashL_range (zs : List Int) : 0 ≤ hashL zs ∧ hashL zs < 18446744073709551616 := by unfold hashL hM; omega
theorem mod_mul_mod (a b : Int) : (a % hM * b) % hM = (a * b) % hM := by rw [Int.mul_emod, Int.emod_emod_of_dvd _ (Int.dvd_refl _), ← Int.mul_emod]
theorem mod_add_mod (a b : Int) : (a % hM + b % hM) % hM = (a + b) % hM := by rw [← Int.add_emod]
theorem hashL_snoc (zs : List Int) (x : Int) : hashL (zs ++ [x]) = (hashL zs + x % hM) % hM * hB % hM := by
  unfold hashL
  rw [hashZ_snoc, mod_add_mod, mod_mul_mod]
/-- the two numbers that are kept, from the end -/
def hpowM (n : Nat) : Int := hpow n % hM
def hsumM (zs : List Int) : Int := hsum zs % hM
theorem hpowM_succ (n : Nat) : hpowM (n + 1) = hpowM n * hB % hM := by unfold hpowM; rw [mod_mul_mod]; rfl
theorem hsumM_cons (x : Int) (xs : List Int) : hsumM (x :: xs) = (hsumM xs + (x % hM * hpowM (xs.length + 1)) % hM) % hM := by
  unfold hsumM hpowM
  rw [mod_mul_mod, Int.mul_comm x, mod_mul_mod, mod_add_mod, Int.mul_comm, Int.add_comm]
  rfl
theorem hashL_parts (zs : List Int) : (hsumM zs + hpowM zs.length) % hM = hashL zs := by
  unfold hsumM hpowM hashL
  rw [mod_add_mod, hashZ_eq, Int.one_mul, Int.add_comm]
theorem hpowM_range (n : Nat) : 0 ≤ hpowM n ∧ hpowM n < 18446744073709551616 := by unfold hpowM hM; omega
theorem hsumM_range (zs : List Int) : 0 ≤ hsumM zs ∧ hsumM zs < 18446744073709551616 := by unfold hsumM hM; omega
/-- the base is odd: its powers can be divided by -/
theorem hB_cancel {y : Int} (h : (y * hB) % hM = 0) : y % hM = 0 := by
  have e : hB * 14886173955864302971 = 1 + 887285111055 * hM := by decide
  obtain ⟨t, ht⟩ := Int.dvd_of_emod_eq_zero h
  have : y = hM * (t * 14886173955864302971 - y * 887285111055) := by
    have h1 : y * (hB * 14886173955864302971) = hM * t * 14886173955864302971 := by rw [← Int.mul_assoc, ht]
    rw [e, Int.mul_add, Int.mul_one] at h1
    rw [Int.mul_sub, ← Int.mul_assoc]
    have h2 : y * (887285111055 * hM) = hM * (y * 887285111055) := by rw [← Int.mul_assoc, Int.mul_comm]
    omega
  rw [this]
  exact Int.mul_emod_right _ _
theorem hpow_cancel {y : Int} (n : Nat) (h : (y * hpow n) % hM = 0) : y % hM = 0 := by
  induction n with
  | zero => simpa [hpow] using h
  | succ n ih =>
    apply ih
    apply hB_cancel
    rw [Int.mul_assoc]
    exact h
theorem hsum_set (zs : List Int) (i : Nat) (y : Int) (hi : i < zs.length) : hsum (zs.set i y) = hsum zs + (y - zs[i]?.getD 0) * hpow (zs.length - i) := by
  induction zs generalizing i with
  | nil => simp at hi
  | cons x xs ih =>
    cases i with
    | zero =>
      simp only [List.set_cons_zero, hsum, List.length_cons, Nat.sub_zero, List.getElem?_cons_zero, Option.getD_some]
      rw [Int.sub_mul]
      omega
    | succ i =>
      have hl : i < xs.length := by simpa using hi
      simp only [List.set_cons_succ, hsum, List.length_cons, List.getElem?_cons_succ, List.length_set]
      rw [ih i hl, Nat.add_sub_add_right]
      omega
theorem hash_changed (zs : List Int) (i : Nat) (c : Int) (hi : i < zs.length) (hc : Word c) (h0 : c ≠ 0) : hashL (zs.set i (wrap64 (zs[i]?.getD 0 + c))) ≠ hashL zs := by
  intro h
  rw [← hashL_parts, ← hashL_parts, List.length_set] at h
  unfold hsumM hpowM at h
  rw [mod_add_mod, mod_add_mod, hsum_set zs i _ hi] at h
  have h1 := Int.emod_emod_of_dvd (hsum zs + (wrap64 (zs[i]?.getD 0 + c) - zs[i]?.getD 0) * hpow (zs.length - i) + hpow zs.length) (Int.dvd_refl hM)
  have h2 : ((wrap64 (zs[i]?.getD 0 + c) - zs[i]?.getD 0) * hpow (zs.length - i)) % hM = 0 := by
    generalize (wrap64 (zs[i]?.getD 0 + c) - zs[i]?.getD 0) * hpow (zs.length - i) = q at *
    generalize hsum zs = a at *
    generalize hpow zs.length = b at *
    unfold hM at *
    omega
  have h3 := hpow_cancel _ h2
  unfold Word at hc
  unfold hM at h3
  generalize zs[i]?.getD 0 = z at *
  unfold wrap64 at h3
  omega
end Go.Proofs.YtcnabebcckbfkaaDoor
