/- Fair picks, as plain lists: nothing here speaks of a program. -/
import Derived.Test.YtgkiloidjeahbaaMem
namespace Go.Proofs.Ytgkiloidjeahbaa
open Go.RowKit
theorem snoc_ind {motive : List Int → Prop} (h0 : motive []) (h1 : ∀ l x, motive l → motive (l ++ [x])) (l : List Int) : motive l := by
  rw [← List.reverse_reverse l]
  induction l.reverse with
  | nil => exact h0
  | cons x xs ih => rw [List.reverse_cons]; exact h1 _ _ ih
/-- a partial function, changed at one place -/
def upd {α : Type} (f : Int → Option α) (z : Int) (v : α) : Int → Option α := fun y => if y = z then some v else f y
/-- the last place of each number -/
def lastF (ps : List Int) : Int → Option Int := (ps.zipIdx).foldl (fun f x => upd f x.1 (x.2 : Int)) (fun _ => none)
theorem lastF_snoc (ps : List Int) (x : Int) : lastF (ps ++ [x]) = upd (lastF ps) x (ps.length : Int) := by
  unfold lastF
  rw [List.zipIdx_append, List.foldl_append]
  simp
theorem lastF_some (ps : List Int) (z : Int) : ∀ p : Int, lastF ps z = some p → ∃ q, ∃ hq : q < ps.length, p = (q : Int) ∧ ps[q] = z := by
  refine snoc_ind (motive := fun ps => ∀ p : Int, lastF ps z = some p → ∃ q, ∃ hq : q < ps.length, p = (q : Int) ∧ ps[q] = z) ?_ ?_ ps
  · intro p h
    simp [lastF] at h
  · intro ps x ih p h
    rw [lastF_snoc] at h
    unfold upd at h
    split at h
    · rename_i e
      have hp : (ps.length : Int) = p := by simpa using h
      exact ⟨ps.length, by simp, hp.symm, by simp [e]⟩
    · obtain ⟨q, hq, h1, h2⟩ := ih p h
      exact ⟨q, by simp; omega, h1, by rw [List.getElem_append_left hq]; exact h2⟩
theorem lastF_last (ps : List Int) (z : Int) : ∀ (q : Nat) (hq : q < ps.length), ps[q] = z → ∃ p : Nat, lastF ps z = some (p : Int) ∧ q ≤ p ∧ p < ps.length := by
  refine snoc_ind (motive := fun ps => ∀ (q : Nat) (hq : q < ps.length), ps[q] = z → ∃ p : Nat, lastF ps z = some (p : Int) ∧ q ≤ p ∧ p < ps.length) ?_ ?_ ps
  · intro q hq
    simp at hq
  · intro ps x ih q hq h
    rw [lastF_snoc]
    unfold upd
    by_cases e : z = x
    · rw [if_pos e]
      exact ⟨ps.length, rfl, by simp at hq; omega, by simp⟩
    · rw [if_neg e]
      have hq' : q < ps.length := by
        apply Nat.lt_of_not_le
        intro hge
        have : q = ps.length := by simp at hq; omega
        subst this
        simp at h
        exact e h.symm
      rw [List.getElem_append_left hq'] at h
      obtain ⟨p, h1, h2, h3⟩ := ih q hq' h
      exact ⟨p, h1, h2, by simp; omega⟩
def fitB (f : Int → Option Int) (N i z : Int) : Bool := decide (0 ≤ z) && (decide (z < N) && (match f z with | none => true | some p => decide (N ≤ i - p)))
def fitsB (N : Int) (ps : List Int) : Bool := (List.range ps.length).all fun k => fitB (lastF (ps.take k)) N k (ps[k]?.getD 0)
def fairB (N : Int) (ps : List Int) : Bool := decide (1 ≤ N) && (decide (N ≤ 64) && (decide ((ps.length : Int) < N) || fitsB N ps))
theorem fitB_iff (ps : List Int) (N : Int) (k : Nat) (z : Int) (hk : k ≤ ps.length) : fitB (lastF (ps.take k)) N k z = true ↔ 0 ≤ z ∧ z < N ∧ ∀ q (hq : q < ps.length), q < k → ps[q] = z → N ≤ (k : Int) - q := by
  unfold fitB
  cases hf : lastF (ps.take k) z with
  | none =>
    simp only [Bool.and_true, Bool.and_eq_true, decide_eq_true_eq]
    refine ⟨fun h => ⟨h.1, h.2, fun q hq hqk hz => ?_⟩, fun h => ⟨h.1, h.2.1⟩⟩
    obtain ⟨p, h1, _⟩ := lastF_last (ps.take k) z q (by rw [List.length_take]; omega) (by rw [List.getElem_take]; exact hz)
    rw [hf] at h1; cases h1
  | some p =>
    obtain ⟨q0, hq0, hp, hz0⟩ := lastF_some _ _ _ hf
    rw [List.length_take] at hq0
    rw [List.getElem_take] at hz0
    simp only [Bool.and_eq_true, decide_eq_true_eq]
    constructor
    · rintro ⟨h1, h2, h3⟩
      refine ⟨h1, h2, fun q hq hqk hz => ?_⟩
      obtain ⟨p', h4, h5, _⟩ := lastF_last (ps.take k) z q (by rw [List.length_take]; omega) (by rw [List.getElem_take]; exact hz)
      rw [hf] at h4
      have : p = (p' : Int) := by simpa using h4
      omega
    · rintro ⟨h1, h2, h3⟩
      have := h3 q0 (by omega) (by omega) hz0
      exact ⟨h1, h2, by omega⟩
/-- how often a number stands in a list -/
def cntL (z : Int) (l : List Int) : Nat := (l.filter fun x => x == z).length
def onceB (N : Nat) (l : List Int) : Bool := (List.range N).all fun w => cntL (w : Int) l == 1
def windows (N : Nat) (ps : List Int) : Bool := (List.range (ps.length + 1 - N)).all fun i => onceB N ((ps.drop i).take N)
def inR (N : Nat) (x : Int) : Bool := decide (0 ≤ x) && decide (x < N)
theorem sum_single (N : Nat) (x : Int) : ((List.range N).map fun (w : Nat) => if x = (w : Int) then 1 else 0).sum = if inR N x then 1 else 0 := by
  induction N with
  | zero => (simp [inR] <;> omega)
  | succ N ih =>
    rw [List.range_succ, List.map_append, List.sum_append, ih]
    unfold inR
    by_cases h : x = (N : Int)
    · (simp [h] <;> omega)
    · simp only [List.map_cons, List.map_nil, List.sum_cons, List.sum_nil, if_neg h]
      by_cases h1 : 0 ≤ x ∧ x < (N : Int)
      · (simp [h1.1, h1.2] <;> omega)
      · by_cases h0 : 0 ≤ x
        · have h2 : ¬ x < (N : Int) := fun h2 => h1 ⟨h0, h2⟩
          have h3 : ¬ x < ((N + 1 : Nat) : Int) := by omega
          (simp [h0, h2] <;> omega)
        · simp [h0]
theorem sum_add (f g : Nat → Nat) (l : List Nat) : (l.map fun w => f w + g w).sum = (l.map f).sum + (l.map g).sum := by
  induction l with
  | nil => simp
  | cons a l ih => simp [ih]; omega
theorem sum_counts (N : Nat) (l : List Int) : ((List.range N).map fun (w : Nat) => cntL (w : Int) l).sum = (l.filter fun x => inR N x).length := by
  induction l with
  | nil =>
    have h0 : ∀ l : List Nat, (l.map fun _ => 0).sum = 0 := by intro l; induction l <;> simp_all
    simpa [cntL] using h0 (List.range N)
  | cons x l ih =>
    have e : ∀ w : Nat, cntL (w : Int) (x :: l) = (if x = (w : Int) then 1 else 0) + cntL (w : Int) l := by
      intro w
      unfold cntL
      by_cases h : x = (w : Int)
      · (simp [h] <;> omega)
      · simp [h]
    simp only [e]
    rw [sum_add, ih, sum_single]
    cases h : inR N x
    · simp [h]
    · (simp [h] <;> omega)
theorem ones_of_sum (g : Nat → Nat) (l : List Nat) (h : ∀ w ∈ l, g w ≤ 1) (hs : (l.map g).sum = l.length) : ∀ w ∈ l, g w = 1 := by
  induction l with
  | nil => simp
  | cons a l ih =>
    have h1 := h a (by simp)
    have h2 : ∀ w ∈ l, g w ≤ 1 := fun w hw => h w (by simp [hw])
    have h3 : (l.map g).sum ≤ l.length := by
      clear ih hs h h1
      induction l with
      | nil => simp
      | cons b l ih => have := ih (fun w hw => h2 w (by simp [hw])); have := h2 b (by simp); simp; omega
    simp at hs
    have h4 : (l.map g).sum = l.length := by omega
    intro w hw
    rcases List.mem_cons.1 hw with rfl | hw
    · omega
    · exact ih h2 h4 w hw
theorem sum_of_ones (g : Nat → Nat) (l : List Nat) (h : ∀ w ∈ l, g w = 1) : (l.map g).sum = l.length := by
  induction l with
  | nil => simp
  | cons a l ih => simp [h a (by simp), ih (fun w hw => h w (by simp [hw]))]; omega
theorem cnt_two (l : List Int) (z : Int) (i j : Nat) (hij : i < j) (hj : j < l.length) (h1 : l[i]'(by omega) = z) (h2 : l[j] = z) : 2 ≤ cntL z l := by
  induction l generalizing i j with
  | nil => simp at hj
  | cons x l ih =>
    unfold cntL
    cases j with
    | zero => omega
    | succ j =>
      cases i with
      | zero =>
        simp at h1 h2
        have : 1 ≤ (l.filter fun x => x == z).length := by
          apply List.length_pos_iff.2
          intro he
          have hm : l[j]'(by simpa using hj) ∈ l.filter fun x => x == z := List.mem_filter.2 ⟨List.getElem_mem _, by simp [h2]⟩
          rw [he] at hm; cases hm
        simp [h1]; omega
      | succ i =>
        have := ih i j (by omega) (by simpa using hj) (by simpa using h1) (by simpa using h2)
        unfold cntL at this
        rw [List.filter_cons]
        split
        · simp; omega
        · exact this
theorem cnt_le_one (l : List Int) (z : Int) (h : ∀ i j (hj : j < l.length) (hij : i < j), l[i]'(by omega) = z → l[j] ≠ z) : cntL z l ≤ 1 := by
  induction l with
  | nil => simp [cntL]
  | cons x l ih =>
    unfold cntL
    rw [List.filter_cons]
    split
    · rename_i hx
      have hx' : x = z := by simpa using hx
      have : (l.filter fun y => y == z) = [] := by
        apply List.filter_eq_nil_iff.2
        intro y hy hyz
        obtain ⟨n, hn, rfl⟩ := List.getElem_of_mem hy
        exact h 0 (n + 1) (by simp; omega) (by omega) (by simpa using hx') (by simpa using hyz)
      rw [this]; simp
    · have := ih (fun i j hj hij h1 h2 => h (i + 1) (j + 1) (by simp; omega) (by omega) (by simpa using h1) (by simpa using h2))
      unfold cntL at this
      exact this
theorem filter_full (l : List Int) (p : Int → Bool) (h : (l.filter p).length = l.length) : ∀ x ∈ l, p x = true := by
  induction l with
  | nil => simp
  | cons a l ih =>
    intro x hx
    rw [List.filter_cons] at h
    have hle := List.length_filter_le p l
    split at h
    · rename_i ha
      simp at h
      rcases List.mem_cons.1 hx with rfl | hx
      · exact ha
      · exact ih (by simpa using h) x hx
    · simp at h; omega
/-- picks are fair exactly if each window has each worker once -/
theorem fits_windows (N : Nat) (ps : List Int) (hN : 1 ≤ N) (hl : N ≤ ps.length) : fitsB N ps = windows N ps := by
  rw [Bool.eq_iff_iff]
  have hfits : fitsB N ps = true ↔ ∀ k (hk : k < ps.length), 0 ≤ ps[k] ∧ ps[k] < N ∧ ∀ q (hq : q < ps.length), q < k → ps[q] = ps[k] → (N : Int) ≤ (k : Int) - q := by
    unfold fitsB
    rw [List.all_eq_true]
    constructor
    · intro h k hk
      have h1 := h k (List.mem_range.2 hk)
      rw [List.getElem?_eq_getElem hk, Option.getD_some] at h1
      exact (fitB_iff ps N k _ (by omega)).1 h1
    · intro h k hk
      have hk' := List.mem_range.1 hk
      rw [List.getElem?_eq_getElem hk', Option.getD_some]
      exact (fitB_iff ps N k _ (by omega)).2 (h k hk')
  have hwin : windows N ps = true ↔ ∀ i, i + N ≤ ps.length → ∀ w, w < N → cntL (w : Int) ((ps.drop i).take N) = 1 := by
    unfold windows onceB
    simp only [List.all_eq_true, List.mem_range, beq_iff_eq]
    exact ⟨fun h i hi => h i (by omega), fun h i hi => h i (by omega)⟩
  have hwl : ∀ i, i + N ≤ ps.length → ((ps.drop i).take N).length = N := fun i hi => by rw [List.length_take, List.length_drop]; omega
  have hwg : ∀ i j (hi : i + N ≤ ps.length) (hj : j < N), ((ps.drop i).take N)[j]'(by rw [hwl i hi]; exact hj) = ps[i + j]'(by omega) := fun i j hi hj => by simp
  rw [hfits, hwin]
  constructor
  · intro h i hi
    have hin : ((ps.drop i).take N).filter (fun x => inR N x) = (ps.drop i).take N := by
      rw [List.filter_eq_self]
      intro x hx
      have hx' := List.mem_of_mem_drop (List.mem_of_mem_take hx)
      obtain ⟨n, hn, rfl⟩ := List.getElem_of_mem hx'
      have := h n hn
      simp [inR, this.1, this.2.1]
    have hsum := sum_counts N ((ps.drop i).take N)
    rw [hin, hwl i hi] at hsum
    have hone := ones_of_sum (fun w => cntL (w : Int) ((ps.drop i).take N)) (List.range N) (fun w _ => cnt_le_one _ _ (fun a b hb hab ha hbz => by
      rw [hwl i hi] at hb
      rw [hwg i a hi (by omega)] at ha
      rw [hwg i b hi hb] at hbz
      have := (h (i + b) (by omega)).2.2 (i + a) (by omega) (by omega) (ha.trans hbz.symm)
      omega)) (by rw [List.length_range]; exact hsum)
    exact fun w hw => hone w (List.mem_range.2 hw)
  · intro h
    have hall : ∀ i, i + N ≤ ps.length → ∀ x ∈ (ps.drop i).take N, inR N x = true := fun i hi => by
      apply filter_full
      rw [hwl i hi, ← sum_counts]
      have := sum_of_ones (fun w => cntL (w : Int) ((ps.drop i).take N)) (List.range N) (fun w hw => h i hi w (List.mem_range.1 hw))
      rw [List.length_range] at this
      exact this
    intro k hk
    -- a window that ends at k, or the first one
    obtain ⟨i, hi, hik, hki⟩ : ∃ i, i + N ≤ ps.length ∧ i ≤ k ∧ k < i + N := by
      by_cases h1 : k + 1 ≤ N
      · exact ⟨0, by omega, by omega, by omega⟩
      · exact ⟨k + 1 - N, by omega, by omega, by omega⟩
    have hkw := hwg i (k - i) hi (by omega)
    have e : i + (k - i) = k := by omega
    have hr := hall i hi _ (List.getElem_mem (by rw [hwl i hi]; show k - i < N; omega))
    rw [hkw] at hr
    simp only [e] at hr
    unfold inR at hr
    rw [Bool.and_eq_true, decide_eq_true_eq, decide_eq_true_eq] at hr
    refine ⟨hr.1, hr.2, fun q hq hqk hz => ?_⟩
    apply Classical.byContradiction
    intro hlt
    -- both lie in one window
    obtain ⟨i', hi', hq', hk'⟩ : ∃ i, i + N ≤ ps.length ∧ i ≤ q ∧ k < i + N := by
      by_cases h1 : k + 1 ≤ N
      · exact ⟨0, by omega, by omega, by omega⟩
      · exact ⟨k + 1 - N, by omega, by omega, by omega⟩
    have h2 := cnt_two ((ps.drop i').take N) ps[k] (q - i') (k - i') (by omega) (by rw [hwl i' hi']; omega) (by rw [hwg i' (q - i') hi' (by omega)]; simp only [show i' + (q - i') = q by omega]; exact hz) (by rw [hwg i' (k - i') hi' (by omega)]; simp only [show i' + (k - i') = k by omega])
    obtain ⟨v, hv⟩ := Int.eq_ofNat_of_zero_le hr.1
    have h3 := h i' hi' v (by omega)
    rw [hv] at h2
    have h4 : cntL (v : Int) ((ps.drop i').take N) = 1 := h3
    have h5 : 2 ≤ cntL (v : Int) ((ps.drop i').take N) := h2
    omega
/-- all workers in turn -/
def turnsL (N : Int) (n : Nat) : List Int := (List.range n).map fun (i : Nat) => (i : Int) % N
theorem turnsL_succ (N : Int) (n : Nat) : turnsL N (n + 1) = turnsL N n ++ [(n : Int) % N] := by unfold turnsL; rw [List.range_succ, List.map_append]; rfl
theorem turnsL_length (N : Int) (n : Nat) : (turnsL N n).length = n := by simp [turnsL]
theorem fair_turns (N : Int) (n : Nat) (h1 : 1 ≤ N) (h2 : N ≤ 64) : fairB N (turnsL N n) = true := by
  unfold fairB
  simp only [h1, h2, decide_true, Bool.true_and, Bool.or_eq_true, decide_eq_true_eq]
  right
  unfold fitsB
  rw [List.all_eq_true]
  intro k hk
  have hk' : k < (turnsL N n).length := List.mem_range.1 hk
  rw [List.getElem?_eq_getElem hk', Option.getD_some]
  refine (fitB_iff _ N k _ (by omega)).2 ?_
  have g : ∀ q (hq : q < (turnsL N n).length), (turnsL N n)[q] = (q : Int) % N := fun q hq => by simp [turnsL]
  rw [g k hk']
  refine ⟨Int.emod_nonneg _ (by omega), Int.emod_lt_of_pos _ (by omega), fun q hq hqk hz => ?_⟩
  rw [g q hq] at hz
  have hd := Int.emod_emod_of_dvd
  have h3 : ((k : Int) - q) % N = 0 := Int.emod_eq_emod_iff_emod_sub_eq_zero.1 hz.symm
  have h4 := Int.emod_add_mul_ediv ((k : Int) - q) N
  rw [h3] at h4
  have h5 : 0 < ((k : Int) - q) / N := by
    apply Classical.byContradiction
    intro hle
    have := Int.mul_le_mul_of_nonneg_left (show ((k : Int) - q) / N ≤ 0 by omega) (show 0 ≤ N by omega)
    omega
  have := Int.mul_le_mul_of_nonneg_left (show 1 ≤ ((k : Int) - q) / N by omega) (show 0 ≤ N by omega)
  omega
end Go.Proofs.Ytgkiloidjeahbaa
