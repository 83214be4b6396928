/- Cycles, as plain lists: nothing here speaks of a program. -/
import Derived.Test.YtgkiloidjeahbaaPrmM
namespace Go.Proofs.Ytgkiloidjeahbaa
open Go.RowKit
theorem php (n : Nat) : ∀ g : Nat → Nat, (∀ k, k ≤ n → g k < n) → ∃ a b, a < b ∧ b ≤ n ∧ g a = g b := by
  induction n with
  | zero => intro g h; exact absurd (h 0 (Nat.le_refl _)) (by omega)
  | succ n ih =>
    intro g h
    by_cases hv : ∃ k, k ≤ n ∧ g k = g (n + 1)
    · obtain ⟨k, hk, e⟩ := hv
      exact ⟨k, n + 1, by omega, Nat.le_refl _, e⟩
    · have hv' : ∀ k, k ≤ n → g k ≠ g (n + 1) := fun k hk e => hv ⟨k, hk, e⟩
      have hl := h (n + 1) (Nat.le_refl _)
      obtain ⟨a, b, hab, hb, e⟩ := ih (fun k => if g k = n then g (n + 1) else g k) (fun k hk => by
        have h1 := h k (by omega)
        have h2 := hv' k hk
        split <;> omega)
      refine ⟨a, b, hab, by omega, ?_⟩
      have h1 := hv' a (by omega)
      have h2 := hv' b hb
      split at e <;> split at e <;> omega
theorem least_of {P : Nat → Prop} (m : Nat) (h : P m) : ∃ k, k ≤ m ∧ P k ∧ ∀ j, j < k → ¬ P j := by
  induction m using Nat.strongRecOn with
  | ind m ih =>
    by_cases hx : ∃ j, j < m ∧ P j
    · obtain ⟨j, hj, hp⟩ := hx
      obtain ⟨k, hk, h1, h2⟩ := ih j hj hp
      exact ⟨k, by omega, h1, h2⟩
    · exact ⟨m, Nat.le_refl _, h, fun j hj hp => hx ⟨j, hj, hp⟩⟩
def fP (p : List Int) (x : Nat) : Nat := (p[x]?.getD 0).toNat
def itP (p : List Int) (i : Nat) : Nat → Nat
  | 0 => i
  | k + 1 => fP p (itP p i k)
theorem f_at {p : List Int} (hp : validB p = true) {x : Nat} (hx : x < p.length) : p[x]?.getD 0 = (fP p x : Int) ∧ fP p x < p.length := by
  have := ((valid_iff p).1 hp).1 x hx
  unfold fP
  rw [List.getElem?_eq_getElem hx, Option.getD_some]
  omega
theorem f_inj {p : List Int} (hp : validB p = true) {a b : Nat} (ha : a < p.length) (hb : b < p.length) (e : fP p a = fP p b) : a = b := by
  have h1 := (f_at hp ha).1
  have h2 := (f_at hp hb).1
  rw [List.getElem?_eq_getElem ha, Option.getD_some] at h1
  rw [List.getElem?_eq_getElem hb, Option.getD_some] at h2
  exact ((valid_iff p).1 hp).2 a b ha hb (by rw [h1, h2, e])
theorem it_lt {p : List Int} (hp : validB p = true) {i : Nat} (hi : i < p.length) (k : Nat) : itP p i k < p.length := by
  induction k with
  | zero => exact hi
  | succ k ih => exact (f_at hp ih).2
theorem it_add (p : List Int) (i a b : Nat) : itP p i (a + b) = itP p (itP p i a) b := by
  induction b with
  | zero => rfl
  | succ b ih => show fP p (itP p i (a + b)) = fP p _; rw [ih]
theorem it_cancel {p : List Int} (hp : validB p = true) {i : Nat} (hi : i < p.length) (a d : Nat) (e : itP p i (a + d) = itP p i a) : itP p i d = i := by
  induction a with
  | zero => rw [Nat.zero_add] at e; exact e
  | succ a ih =>
    rw [show a + 1 + d = (a + d) + 1 by omega] at e
    exact ih (f_inj hp (it_lt hp hi _) (it_lt hp hi _) e)
theorem per_ex {p : List Int} (hp : validB p = true) {i : Nat} (hi : i < p.length) : ∃ m, (1 ≤ m ∧ m ≤ p.length) ∧ itP p i m = i ∧ ∀ k, 1 ≤ k → k < m → itP p i k ≠ i := by
  obtain ⟨a, b, hab, hb, e⟩ := php p.length (itP p i) (fun k _ => it_lt hp hi k)
  have h1 : itP p i (b - a) = i := it_cancel hp hi a (b - a) (by rw [show a + (b - a) = b by omega]; exact e.symm)
  obtain ⟨m, hm, ⟨h2, h3⟩, h4⟩ := least_of (P := fun m => 1 ≤ m ∧ itP p i m = i) (b - a) ⟨by omega, h1⟩
  exact ⟨m, ⟨h2, by omega⟩, h3, fun k hk hkm he => h4 k hkm ⟨hk, he⟩⟩
noncomputable def perP (p : List Int) (i : Nat) : Nat := open Classical in if h : ∃ m, (1 ≤ m ∧ m ≤ p.length) ∧ itP p i m = i ∧ ∀ k, 1 ≤ k → k < m → itP p i k ≠ i then Classical.choose h else 1
theorem per_spec {p : List Int} (hp : validB p = true) {i : Nat} (hi : i < p.length) : (1 ≤ perP p i ∧ perP p i ≤ p.length) ∧ itP p i (perP p i) = i ∧ ∀ k, 1 ≤ k → k < perP p i → itP p i k ≠ i := by
  have h := per_ex hp hi
  unfold perP
  rw [dif_pos h]
  exact Classical.choose_spec h
theorem it_mul {p : List Int} (hp : validB p = true) {i : Nat} (hi : i < p.length) (m : Nat) : itP p i (perP p i * m) = i := by
  induction m with
  | zero => rfl
  | succ m ih => rw [Nat.mul_succ, it_add, ih]; exact (per_spec hp hi).2.1
def orbP (p : List Int) (i v : Nat) : Prop := ∃ k, itP p i k = v
theorem orb_lt {p : List Int} (hp : validB p = true) {i v : Nat} (hi : i < p.length) (h : orbP p i v) : ∃ k, k < perP p i ∧ itP p i k = v := by
  obtain ⟨k, rfl⟩ := h
  have h1 := (per_spec hp hi).1.1
  refine ⟨k % perP p i, Nat.mod_lt _ (by omega), ?_⟩
  have h2 := it_add p i (perP p i * (k / perP p i)) (k % perP p i)
  rw [Nat.div_add_mod, it_mul hp hi] at h2
  exact h2.symm
theorem orb_symm {p : List Int} (hp : validB p = true) {i v : Nat} (hi : i < p.length) (h : orbP p i v) : orbP p v i := by
  obtain ⟨k, hk, rfl⟩ := orb_lt hp hi h
  refine ⟨perP p i - k, ?_⟩
  rw [← it_add, show k + (perP p i - k) = perP p i by omega]
  exact (per_spec hp hi).2.1
theorem orb_trans {p : List Int} {a b c : Nat} (h : orbP p a b) (k : orbP p b c) : orbP p a c := by
  obtain ⟨m, rfl⟩ := h
  obtain ⟨n, rfl⟩ := k
  exact ⟨m + n, it_add _ _ _ _⟩
theorem it_ne {p : List Int} (hp : validB p = true) {i a b : Nat} (hi : i < p.length) (hab : a < b) (hb : b < perP p i) : itP p i a ≠ itP p i b := fun e =>
  (per_spec hp hi).2.2 (b - a) (by omega) (by omega) (it_cancel hp hi a (b - a) (by rw [show a + (b - a) = b by omega]; exact e.symm))
def cycTo (p : List Int) (i j : Nat) : List Int := (List.range j).map fun (k : Nat) => (itP p i k : Int)
noncomputable def cycL (p : List Int) (i : Nat) : List Int := cycTo p i (perP p i)
theorem cycTo_length (p : List Int) (i j : Nat) : (cycTo p i j).length = j := by simp [cycTo]
theorem cycTo_succ (p : List Int) (i j : Nat) : cycTo p i (j + 1) = cycTo p i j ++ [(itP p i j : Int)] := by unfold cycTo; rw [List.range_succ, List.map_append]; rfl
def leastTo (p : List Int) (i j : Nat) : Bool := (List.range j).all fun (k : Nat) => decide (k = 0 ∨ i < itP p i k)
noncomputable def leastB (p : List Int) (i : Nat) : Bool := leastTo p i (perP p i)
theorem leastTo_succ (p : List Int) (i j : Nat) (h : 1 ≤ j) : leastTo p i (j + 1) = (leastTo p i j && decide (i < itP p i j)) := by
  unfold leastTo
  rw [List.range_succ, List.all_append]
  congr 1
  simp
  omega
theorem least_iff {p : List Int} (hp : validB p = true) {i : Nat} (hi : i < p.length) : leastB p i = true ↔ ∀ v, orbP p i v → i ≤ v := by
  unfold leastB leastTo
  rw [List.all_eq_true]
  constructor
  · intro h v hv
    obtain ⟨k, hk, rfl⟩ := orb_lt hp hi hv
    have := of_decide_eq_true (h k (List.mem_range.2 hk))
    rcases this with rfl | h1
    · exact Nat.le_refl _
    · omega
  · intro h k hk
    have hk' := List.mem_range.1 hk
    refine decide_eq_true ?_
    rcases Nat.eq_zero_or_pos k with h0 | h0
    · exact .inl h0
    · have h1 := h _ ⟨k, rfl⟩
      have h2 := (per_spec hp hi).2.2 k h0 hk'
      exact .inr (by omega)
noncomputable def cycsTo (p : List Int) (i : Nat) : List (List Int) := ((List.range i).filter (leastB p)).map (cycL p)
theorem cycs_yes {p : List Int} {i : Nat} (h : leastB p i = true) : cycsTo p (i + 1) = cycsTo p i ++ [cycL p i] := by
  unfold cycsTo
  rw [List.range_succ, List.filter_append, List.map_append]
  simp [h]
theorem cycs_no {p : List Int} {i : Nat} (h : leastB p i = false) : cycsTo p (i + 1) = cycsTo p i := by
  unfold cycsTo
  rw [List.range_succ, List.filter_append, List.map_append]
  simp [h]
theorem cycsTo_length (p : List Int) (i : Nat) : (cycsTo p i).length ≤ i := by
  unfold cycsTo
  rw [List.length_map]
  have := List.length_filter_le (leastB p) (List.range i)
  rw [List.length_range] at this
  exact this
/-! ### what has been seen -/
noncomputable def seenB (p : List Int) (i : Nat) (z : Int) : Bool := @decide (∃ u, u < i ∧ ∃ k, (itP p u k : Int) = z) (Classical.propDecidable _)
noncomputable def midB (p : List Int) (i j : Nat) (z : Int) : Bool := seenB p i z || (List.range j).any fun (k : Nat) => decide ((itP p i k : Int) = z)
theorem seen_iff (p : List Int) (i : Nat) (z : Int) : seenB p i z = true ↔ ∃ u, u < i ∧ ∃ k, (itP p u k : Int) = z := by
  unfold seenB
  exact @decide_eq_true_iff _ (Classical.propDecidable _)
theorem seen_orb (p : List Int) (i v : Nat) : seenB p i (v : Int) = true ↔ ∃ u, u < i ∧ orbP p u v := by
  rw [seen_iff]
  constructor
  · rintro ⟨u, hu, k, e⟩; exact ⟨u, hu, k, by omega⟩
  · rintro ⟨u, hu, k, e⟩; exact ⟨u, hu, k, by omega⟩
theorem seen_zero (p : List Int) : seenB p 0 = fun _ => false := by
  funext z
  rw [Bool.eq_false_iff]
  intro h
  obtain ⟨u, hu, _⟩ := (seen_iff p 0 z).1 h
  omega
theorem seen_first {p : List Int} (hp : validB p = true) {i : Nat} (hi : i < p.length) : seenB p i (i : Int) = !leastB p i := by
  rw [Bool.eq_iff_iff, seen_orb, Bool.not_eq_true']
  rw [← Bool.not_eq_true, least_iff hp hi]
  constructor
  · rintro ⟨u, hu, h⟩ hl
    have := hl u (orb_symm hp (by omega) h)
    omega
  · intro h
    apply Classical.byContradiction
    intro hn
    apply h
    intro v hv
    apply Classical.byContradiction
    intro hlt
    exact hn ⟨v, by omega, orb_symm hp hi hv⟩
theorem mid_zero (p : List Int) (i : Nat) : midB p i 0 = seenB p i := by
  funext z
  unfold midB
  simp
theorem mid_succ (p : List Int) (i j : Nat) (z : Int) : midB p i (j + 1) z = (decide (z = (itP p i j : Int)) || midB p i j z) := by
  unfold midB
  rw [List.range_succ, List.any_append]
  simp only [List.any_cons, List.any_nil, Bool.or_false]
  rw [show decide ((itP p i j : Int) = z) = decide (z = (itP p i j : Int)) by rw [Bool.eq_iff_iff]; simp; exact ⟨fun h => h.symm, fun h => h.symm⟩]
  cases seenB p i z <;> cases decide (z = (itP p i j : Int)) <;> simp
theorem mid_new {p : List Int} (hp : validB p = true) {i j : Nat} (hi : i < p.length) (hl : leastB p i = true) (hj : j < perP p i) : midB p i j (itP p i j : Int) = false := by
  unfold midB
  rw [Bool.or_eq_false_iff]
  constructor
  · rw [Bool.eq_false_iff]
    intro h
    obtain ⟨u, hu, h1⟩ := (seen_orb _ _ _).1 h
    have h2 : orbP p (itP p i j) i := orb_symm hp hi ⟨j, rfl⟩
    have h3 := orb_symm hp (show u < p.length by omega) (orb_trans h1 h2)
    have := (least_iff hp hi).1 hl u h3
    omega
  · rw [List.any_eq_false]
    intro k hk
    have hk' := List.mem_range.1 hk
    have := it_ne hp hi hk' hj
    simp
    omega
theorem mid_stop {p : List Int} (hp : validB p = true) {i : Nat} (hi : i < p.length) : midB p i (perP p i) (itP p i (perP p i) : Int) = true := by
  have h := per_spec hp hi
  unfold midB
  rw [Bool.or_eq_true]
  refine .inr (List.any_eq_true.2 ⟨0, List.mem_range.2 (by omega), ?_⟩)
  rw [h.2.1]
  simp [itP]
theorem mid_done {p : List Int} (hp : validB p = true) {i : Nat} (hi : i < p.length) : midB p i (perP p i) = seenB p (i + 1) := by
  funext z
  rw [Bool.eq_iff_iff, seen_iff]
  unfold midB
  rw [Bool.or_eq_true, seen_iff, List.any_eq_true]
  constructor
  · rintro (⟨u, hu, h⟩ | ⟨k, hk, h⟩)
    · exact ⟨u, by omega, h⟩
    · exact ⟨i, by omega, k, of_decide_eq_true h⟩
  · rintro ⟨u, hu, k, h⟩
    rcases Nat.lt_succ_iff_lt_or_eq.1 hu with h1 | rfl
    · exact .inl ⟨u, h1, k, h⟩
    · obtain ⟨k', hk', e⟩ := orb_lt hp hi ⟨k, rfl⟩
      exact .inr ⟨k', List.mem_range.2 hk', decide_eq_true (by rw [e]; exact h)⟩
theorem seen_skip {p : List Int} (hp : validB p = true) {i : Nat} (hi : i < p.length) (hl : leastB p i = false) : seenB p (i + 1) = seenB p i := by
  have h1 := seen_first hp hi
  rw [hl] at h1
  obtain ⟨u, hu, h2⟩ := (seen_orb _ _ _).1 h1
  funext z
  rw [Bool.eq_iff_iff, seen_iff, seen_iff]
  constructor
  · rintro ⟨w, hw, k, h⟩
    rcases Nat.lt_succ_iff_lt_or_eq.1 hw with h3 | rfl
    · exact ⟨w, h3, k, h⟩
    · obtain ⟨m, rfl⟩ := h2
      exact ⟨u, hu, m + k, by rw [it_add]; exact h⟩
  · rintro ⟨w, hw, h⟩; exact ⟨w, by omega, h⟩
/-! ### the cycles hold all numbers -/
theorem count_upd (n x : Nat) (hx : x < n) (g : Nat → Bool) (hg : g x = false) : ((List.range n).filter fun z => decide (z = x) || g z).length = ((List.range n).filter g).length + 1 := by
  induction n with
  | zero => omega
  | succ n ih =>
    rw [List.range_succ, List.filter_append, List.filter_append, List.length_append, List.length_append]
    by_cases e : x = n
    · subst e
      have h1 : ((List.range x).filter fun z => decide (z = x) || g z) = (List.range x).filter g := by
        apply List.filter_congr
        intro z hz
        have := List.mem_range.1 hz
        rw [show decide (z = x) = false by simp; omega, Bool.false_or]
      rw [h1]
      simp [hg]
    · have h1 := ih (by omega)
      rw [h1]
      have h2 : ([n].filter fun z => decide (z = x) || g z) = [n].filter g := by
        rw [List.filter_cons, List.filter_cons, show decide (n = x) = false by simp; omega, Bool.false_or]
        rfl
      rw [h2]
      omega
noncomputable def seenN (p : List Int) (g : Int → Bool) : Nat := ((List.range p.length).filter fun (z : Nat) => g (z : Int)).length
theorem mid_count {p : List Int} (hp : validB p = true) {i : Nat} (hi : i < p.length) (hl : leastB p i = true) (j : Nat) (hj : j ≤ perP p i) : seenN p (midB p i j) = seenN p (seenB p i) + j := by
  induction j with
  | zero => rw [mid_zero]; rfl
  | succ j ih =>
    have h1 := count_upd p.length (itP p i j) (it_lt hp hi j) (fun z => midB p i j (z : Int)) (mid_new hp hi hl (by omega))
    have h2 : seenN p (midB p i (j + 1)) = ((List.range p.length).filter fun z => decide (z = itP p i j) || midB p i j (z : Int)).length := by
      unfold seenN
      congr 1
      apply List.filter_congr
      intro z _
      rw [mid_succ]
      congr 1
      rw [Bool.eq_iff_iff]
      simp
      omega
    rw [h2, h1]
    have := ih (by omega)
    unfold seenN at this ⊢
    omega
noncomputable def lensTo (p : List Int) (i : Nat) : Nat := ((cycsTo p i).map List.length).sum
theorem lens_seen {p : List Int} (hp : validB p = true) (i : Nat) (hi : i ≤ p.length) : lensTo p i = seenN p (seenB p i) := by
  induction i with
  | zero =>
    unfold lensTo seenN cycsTo
    rw [seen_zero]
    have e : ((List.range p.length).filter fun _ => false) = [] := by rw [List.filter_eq_nil_iff]; simp
    rw [e]; rfl
  | succ i ih =>
    have h0 := ih (by omega)
    cases hl : leastB p i
    · unfold lensTo at h0 ⊢
      rw [cycs_no hl, seen_skip hp (by omega) hl]
      exact h0
    · have h1 := mid_count hp (by omega) hl (perP p i) (Nat.le_refl _)
      rw [mid_done hp (by omega)] at h1
      rw [h1, ← h0]
      unfold lensTo
      rw [cycs_yes hl, List.map_append, List.sum_append]
      simp [cycL, cycTo_length]
theorem lens_all {p : List Int} (hp : validB p = true) : lensTo p p.length = p.length := by
  rw [lens_seen hp _ (Nat.le_refl _)]
  unfold seenN
  rw [List.filter_eq_self.2]
  · exact List.length_range
  · intro z hz
    exact (seen_orb _ _ _).2 ⟨z, List.mem_range.1 hz, 0, rfl⟩
end Go.Proofs.Ytgkiloidjeahbaa
