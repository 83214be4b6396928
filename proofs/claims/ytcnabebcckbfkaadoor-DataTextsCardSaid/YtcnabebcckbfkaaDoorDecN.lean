/- Layer 2: texts are different where numbers are. -/
import Derived.Test.YtcnabebcckbfkaaDoorDecT
namespace Go.Proofs.YtcnabebcckbfkaaDoor
set_option linter.unusedVariables false
/-- the digits of a number -/
def digsN (n : Nat) : List Nat := if h : n < 10 then [n] else digsN (n / 10) ++ [n % 10]
termination_by n
decreasing_by omega
theorem digsN_small {n : Nat} (h : n < 10) : digsN n = [n] := by rw [digsN, dif_pos h]
theorem digsN_big {n : Nat} (h : ¬ n < 10) : digsN n = digsN (n / 10) ++ [n % 10] := by rw [digsN, dif_neg h]
theorem digsN_val (n : Nat) : valD (digsN n) = n := by
  induction n using Nat.strongRecOn with
  | ind n ih =>
    by_cases h : n < 10
    · rw [digsN_small h]; simp [valD]
    · rw [digsN_big h, valD_snoc, ih (n / 10) (by omega)]
      omega
theorem digsN_lt (n : Nat) : ∀ d ∈ digsN n, d < 10 := by
  induction n using Nat.strongRecOn with
  | ind n ih =>
    by_cases h : n < 10
    · rw [digsN_small h]; intro d hd; simp at hd; omega
    · rw [digsN_big h]
      intro d hd
      rcases List.mem_append.1 hd with hd | hd
      · exact ih (n / 10) (by omega) d hd
      · simp at hd; omega
theorem dec_digs (n : Nat) : Lib.decDigits n = (digsN n).map digB := by
  induction n using Nat.strongRecOn with
  | ind n ih =>
    rw [Lib.decDigits]
    by_cases h : n < 10
    · rw [dif_pos h, digsN_small h]; rfl
    · rw [dif_neg h, digsN_big h, ih (n / 10) (by omega), List.map_append]; rfl
theorem digsN_ne (n : Nat) : digsN n ≠ [] := by
  by_cases h : n < 10
  · rw [digsN_small h]; simp
  · rw [digsN_big h]; simp
theorem digB_toNat {d : Nat} (h : d < 10) : (digB d).toNat = 48 + d := by
  unfold digB
  rw [UInt8.toNat_ofNat']
  omega
theorem digB_inj {d e : Nat} (hd : d < 10) (he : e < 10) (h : digB d = digB e) : d = e := by
  have := congrArg UInt8.toNat h
  rw [digB_toNat hd, digB_toNat he] at this
  omega
theorem map_digB_inj : ∀ {ds es : List Nat}, (∀ d ∈ ds, d < 10) → (∀ e ∈ es, e < 10) → ds.map digB = es.map digB → ds = es
  | [], [], _, _, _ => rfl
  | [], _ :: _, _, _, h => by simp at h
  | _ :: _, [], _, _, h => by simp at h
  | d :: ds, e :: es, hd, he, h => by
    simp only [List.map_cons, List.cons.injEq] at h
    rw [digB_inj (hd d (by simp)) (he e (by simp)) h.1, map_digB_inj (fun x hx => hd x (by simp [hx])) (fun x hx => he x (by simp [hx])) h.2]
/-- digits up to a point -/
theorem digits_point : ∀ {ds es : List Nat} {r s : List UInt8}, (∀ d ∈ ds, d < 10) → (∀ e ∈ es, e < 10) → (r = [] ∨ ∃ t, r = 46 :: t) → (s = [] ∨ ∃ t, s = 46 :: t) → ds.map digB ++ r = es.map digB ++ s → ds = es ∧ r = s
  | [], [], r, s, _, _, _, _, h => ⟨rfl, by simpa using h⟩
  | [], e :: es, r, s, _, he, hr, _, h => by
    exfalso
    have h1 := digB_toNat (he e (by simp))
    rcases hr with rfl | ⟨t, rfl⟩
    · simp at h
    · simp only [List.map_nil, List.nil_append, List.map_cons, List.cons_append, List.cons.injEq] at h
      have := congrArg UInt8.toNat h.1
      rw [h1] at this
      have e46 : (46 : UInt8).toNat = 46 := rfl
      omega
  | d :: ds, [], r, s, hd, _, _, hs, h => by
    exfalso
    have h1 := digB_toNat (hd d (by simp))
    rcases hs with rfl | ⟨t, rfl⟩
    · simp at h
    · simp only [List.map_nil, List.nil_append, List.map_cons, List.cons_append, List.cons.injEq] at h
      have := congrArg UInt8.toNat h.1
      rw [h1] at this
      have e46 : (46 : UInt8).toNat = 46 := rfl
      omega
  | d :: ds, e :: es, r, s, hd, he, hr, hs, h => by
    simp only [List.map_cons, List.cons_append, List.cons.injEq] at h
    obtain ⟨a, b⟩ := digits_point (fun x hx => hd x (by simp [hx])) (fun x hx => he x (by simp [hx])) hr hs h.2
    exact ⟨by rw [digB_inj (hd d (by simp)) (he e (by simp)) h.1, a], b⟩
/-- what comes behind the integer part -/
def restL (k p : Nat) : List UInt8 := if p = 0 then [] else 46 :: (fracL k p).map digB
theorem restL_form (k p : Nat) : restL k p = [] ∨ ∃ t, restL k p = 46 :: t := by
  unfold restL
  by_cases h : p = 0
  · rw [if_pos h]; exact .inl rfl
  · rw [if_neg h]; exact .inr ⟨_, rfl⟩
theorem textL_eq (x : Int) (k : Nat) : textL x k = (if x < 0 then [45] else []) ++ ((digsN (x.natAbs / 2 ^ k)).map digB ++ restL k (x.natAbs % 2 ^ k)) := by
  unfold textL restL
  rw [dec_digs, List.append_assoc]
theorem fracL_inj {k p q : Nat} (hk : k ≤ 63) (hp : p < 2 ^ k) (hq : q < 2 ^ k) (h : fracL k p = fracL k q) : p = q := by
  have a := fracL_val hk hp
  have b := fracL_val hk hq
  rw [h] at a
  exact Nat.eq_of_mul_eq_mul_right (Nat.pow_pos (n := (fracL k q).length) (show 0 < 10 by decide)) (a.trans b.symm)
theorem fracL_ne {k p : Nat} (hk : k ≤ 63) (h : p ≠ 0) : fracL k p ≠ [] := by rw [fracL_succ hk h]; simp
theorem restL_inj {k p q : Nat} (hk : k ≤ 63) (hp : p < 2 ^ k) (hq : q < 2 ^ k) (h : restL k p = restL k q) : p = q := by
  unfold restL at h
  by_cases h1 : p = 0
  · by_cases h2 : q = 0
    · omega
    · rw [if_pos h1, if_neg h2] at h; cases h
  · by_cases h2 : q = 0
    · rw [if_neg h1, if_pos h2] at h; cases h
    · rw [if_neg h1, if_neg h2] at h
      simp only [List.cons.injEq, true_and] at h
      exact fracL_inj hk hp hq (map_digB_inj (fracL_digit hp) (fracL_digit hq) h)
theorem body_inj {k m n : Nat} (hk : k ≤ 63) (h : (digsN (m / 2 ^ k)).map digB ++ restL k (m % 2 ^ k) = (digsN (n / 2 ^ k)).map digB ++ restL k (n % 2 ^ k)) : m = n := by
  obtain ⟨a, b⟩ := digits_point (digsN_lt _) (digsN_lt _) (restL_form _ _) (restL_form _ _) h
  have h1 := congrArg valD a
  rw [digsN_val, digsN_val] at h1
  have h2 := restL_inj hk (Nat.mod_lt _ (pow_pos2 k)) (Nat.mod_lt _ (pow_pos2 k)) b
  rw [← Nat.div_add_mod m (2 ^ k), ← Nat.div_add_mod n (2 ^ k), h1, h2]
theorem body_head (k m : Nat) : ∃ c t, (digsN (m / 2 ^ k)).map digB ++ restL k (m % 2 ^ k) = c :: t ∧ c ≠ 45 := by
  have h := digsN_ne (m / 2 ^ k)
  have hl := digsN_lt (m / 2 ^ k)
  cases hd : digsN (m / 2 ^ k) with
  | nil => exact absurd hd h
  | cons d ds =>
    refine ⟨digB d, ds.map digB ++ restL k (m % 2 ^ k), rfl, fun e => ?_⟩
    have h1 := digB_toNat (hl d (by rw [hd]; simp))
    rw [e] at h1
    have e45 : (45 : UInt8).toNat = 45 := rfl
    omega
theorem textL_inj {x y : Int} {k : Nat} (hk : k ≤ 63) (h : textL x k = textL y k) : x = y := by
  rw [textL_eq, textL_eq] at h
  obtain ⟨c, t, hc, hc'⟩ := body_head k x.natAbs
  obtain ⟨d, u, hd, hd'⟩ := body_head k y.natAbs
  by_cases hx : x < 0
  · by_cases hy : y < 0
    · rw [if_pos hx, if_pos hy] at h
      have := body_inj hk (List.append_cancel_left h)
      omega
    · rw [if_pos hx, if_neg hy, hd] at h
      simp only [List.cons_append, List.nil_append, List.cons.injEq] at h
      exact absurd h.1.symm hd'
  · by_cases hy : y < 0
    · rw [if_neg hx, if_pos hy, hc] at h
      simp only [List.cons_append, List.nil_append, List.cons.injEq] at h
      exact absurd h.1 hc'
    · rw [if_neg hx, if_neg hy] at h
      have := body_inj hk (List.append_cancel_left h)
      omega
end Go.Proofs.YtcnabebcckbfkaaDoor
