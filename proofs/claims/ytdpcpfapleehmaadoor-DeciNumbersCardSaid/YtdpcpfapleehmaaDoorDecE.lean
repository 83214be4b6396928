/- Layer 2: what the reference's Parse finds in a number's text. -/
import Derived.Test.YtdpcpfapleehmaaDoorDecZ
namespace Go.Proofs.YtdpcpfapleehmaaDoor
open Go.RowKit
set_option linter.unusedVariables false
/-- where the point is -/
def pointAt (d : List UInt8) : Nat := (d.takeWhile fun b => b != 46).length
theorem pointAt_le : ∀ d : List UInt8, pointAt d ≤ d.length
  | [] => Nat.le_refl _
  | b :: d => by
    have := pointAt_le d
    unfold pointAt at *
    rw [List.takeWhile_cons]
    split
    · simp only [List.length_cons]; omega
    · simp
theorem pointAt_before : ∀ (d : List UInt8) (j : Nat) (h : j < pointAt d) (hj : j < d.length), d[j] ≠ 46
  | b :: d, j, h, hj => by
    unfold pointAt at h
    rw [List.takeWhile_cons] at h
    split at h
    · rename_i hb
      cases j with
      | zero => simpa using hb
      | succ j =>
        have h2 : j < pointAt d := by unfold pointAt; simp only [List.length_cons] at h; omega
        exact pointAt_before d j h2 (by simpa using hj)
    · simp at h
theorem pointAt_is : ∀ (d : List UInt8) (h : pointAt d < d.length), d[pointAt d] = 46
  | b :: d, h => by
    by_cases hb : b = 46
    · subst hb
      have e : pointAt (46 :: d) = 0 := by unfold pointAt; simp
      simp [e]
    · have e : pointAt (b :: d) = pointAt d + 1 := by unfold pointAt; rw [List.takeWhile_cons, if_pos (by simpa using hb)]; rfl
      have h2 : pointAt d < d.length := by rw [e] at h; simpa using h
      have := pointAt_is d h2
      simp only [e, List.getElem_cons_succ]
      exact this
theorem pointAt_digits : ∀ (ds : List Nat) (r : List UInt8), (∀ x ∈ ds, x < 10) → pointAt (ds.map digB ++ r) = ds.length + pointAt r
  | [], r, _ => by simp
  | x :: ds, r, h => by
    have e := (digB_facts (h x (by simp))).2.2.1
    have hb : (digB x != 46) = true := by
      simp only [bne_iff_ne, ne_eq]
      intro e2
      rw [e2] at e
      exact e rfl
    have ih := pointAt_digits ds r (fun y hy => h y (by simp [hy]))
    unfold pointAt at *
    rw [List.map_cons, List.cons_append, List.takeWhile_cons, if_pos hb, List.length_cons, ih, List.length_cons]
    omega
theorem digitsF_digits (ds : List Nat) (h : ∀ x ∈ ds, x < 10) (hn : ds ≠ []) : digitsF (ds.map digB) = true := by
  unfold digitsF
  rw [Bool.and_eq_true]
  constructor
  · rw [List.all_eq_true]
    intro b hb
    obtain ⟨x, hx, rfl⟩ := List.mem_map.1 hb
    have := digB_toNat (h x hx)
    have := h x hx
    unfold digB?
    simp
    omega
  · rw [List.length_map]
    cases ds with
    | nil => exact absurd rfl hn
    | cons a t => simp
theorem digits_of (l : List UInt8) (h : l.all digB? = true) : ∃ ds : List Nat, (∀ x ∈ ds, x < 10) ∧ l = ds.map digB ∧ ds.length = l.length := by
  refine ⟨l.map fun b => b.toNat - 48, ?_, ?_, by rw [List.length_map]⟩
  · intro x hx
    obtain ⟨b, hb, rfl⟩ := List.mem_map.1 hx
    have := List.all_eq_true.1 h b hb
    unfold digB? at this
    simp at this
    omega
  · rw [List.map_map]
    conv => lhs; rw [← List.map_id l]
    apply List.map_congr_left
    intro b hb
    have := List.all_eq_true.1 h b hb
    unfold digB? at this
    simp at this
    apply UInt8.toNat_inj.1
    show b.toNat = (digB (b.toNat - 48)).toNat
    rw [digB_toNat (by omega)]
    omega
theorem sub48_dig {x : Nat} (h : x < 10) : sub48 (digB x) = x := by
  unfold sub48
  rw [digB_toNat h]
  unfold IntKind.wrap
  simp [IntKind.signed, IntKind.bits]
  omega
theorem valueGo_digits : ∀ (ds : List Nat) (n m : Nat), (∀ x ∈ ds, x < 10) → n * 10 ^ ds.length + valD ds = m → m ≤ 9223372036854775808 → valueGo n (ds.map digB) = (m, true)
  | [], n, m, _, h, hm => by
    simp [valD] at h
    subst h
    simp [valueGo, hm]
  | x :: ds, n, m, hx, h, hm => by
    have hp : 1 ≤ 10 ^ ds.length := Nat.pow_pos (by decide)
    rw [List.length_cons, valD, Nat.pow_succ] at h
    have h1 : n * 10 ≤ m := by
      have h2 : n * 10 * 1 ≤ n * 10 * 10 ^ ds.length := Nat.mul_le_mul_left _ hp
      have h3 : n * (10 ^ ds.length * 10) = n * 10 * 10 ^ ds.length := by rw [Nat.mul_comm (10 ^ ds.length), Nat.mul_assoc]
      omega
    rw [List.map_cons, valueGo, if_neg (by omega), sub48_dig (hx x (by simp))]
    refine valueGo_digits ds _ m (fun y hy => hx y (by simp [hy])) ?_ hm
    rw [← h, Nat.add_mul, Nat.add_assoc]
    congr 1
    rw [Nat.mul_comm (10 ^ ds.length), ← Nat.mul_assoc, Nat.mul_comm n]
theorem value_digs (m : Nat) (hm : m ≤ 9223372036854775808) : valueGo 0 ((digsN m).map digB) = (m, true) :=
  valueGo_digits _ 0 m (digsN_lt m) (by rw [Nat.zero_mul, Nat.zero_add, digsN_val]) hm
/-- what is read of a text: the sign, the digits in front of the point, those behind it -/
theorem ref_text (y : Int) (k : Nat) (l d : List UInt8) (neg : Bool) (hd : neg = true ∧ l = 45 :: d ∨ neg = false ∧ l = d ∧ l.head? ≠ some 45) (hl : textL y k = l) :
    neg = decide (y < 0) ∧ d.take (pointAt d) = (digsN (y.natAbs / 2 ^ k)).map digB ∧ (pointAt d < d.length → d.drop (pointAt d + 1) = (fracL k (y.natAbs % 2 ^ k)).map digB ∧ y.natAbs % 2 ^ k ≠ 0) ∧ (¬ pointAt d < d.length → y.natAbs % 2 ^ k = 0) := by
  rw [textL_eq] at hl
  obtain ⟨c, t, hc, hc'⟩ := body_head k y.natAbs
  have hb : neg = decide (y < 0) ∧ d = (digsN (y.natAbs / 2 ^ k)).map digB ++ restL k (y.natAbs % 2 ^ k) := by
    by_cases hy : y < 0
    · rw [if_pos hy] at hl
      rcases hd with ⟨rfl, rfl⟩ | ⟨rfl, rfl, hh⟩
      · exact ⟨by simp [hy], ((List.cons.inj hl).2).symm⟩
      · rw [← hl] at hh; exact absurd rfl hh
    · rw [if_neg hy, List.nil_append] at hl
      rcases hd with ⟨rfl, rfl⟩ | ⟨rfl, rfl, hh⟩
      · rw [hc] at hl; exact absurd (List.cons.inj hl).1 hc'
      · exact ⟨by simp [hy], hl.symm⟩
  refine ⟨hb.1, ?_⟩
  rw [hb.2]
  have hp := pointAt_digits (digsN (y.natAbs / 2 ^ k)) (restL k (y.natAbs % 2 ^ k)) (digsN_lt _)
  have hr : pointAt (restL k (y.natAbs % 2 ^ k)) = 0 := by
    rcases restL_form k (y.natAbs % 2 ^ k) with e | ⟨t, e⟩ <;> rw [e] <;> unfold pointAt <;> simp
  rw [hr, Nat.add_zero] at hp
  rw [hp]
  have hlen : ((digsN (y.natAbs / 2 ^ k)).map digB).length = (digsN (y.natAbs / 2 ^ k)).length := List.length_map _
  refine ⟨List.take_left' hlen, fun h => ?_, fun h => ?_⟩
  · rw [List.length_append, hlen] at h
    rw [← List.drop_drop, List.drop_left' hlen]
    unfold restL at *
    by_cases h0 : y.natAbs % 2 ^ k = 0
    · rw [if_pos h0] at h; simp at h
    · rw [if_neg h0]; exact ⟨rfl, h0⟩
  · rw [List.length_append, hlen] at h
    unfold restL at h
    by_cases h0 : y.natAbs % 2 ^ k = 0
    · exact h0
    · rw [if_neg h0, List.length_cons] at h; omega
end Go.Proofs.YtdpcpfapleehmaaDoor
