/- Plain lists of ranges: even divisions and blocks. Nothing here speaks of a program. -/
import Derived.Test.YtdnaildhcnekfaaDoorMem
namespace Go.Proofs.YtdnaildhcnekfaaDoor
open Go.RowKit

/-- the cells of a range; of a list of ranges -/
def rcell (r : Int × Int) : List Value := [.int .i64 r.1, .int .i64 r.2]
def rcells (rs : List (Int × Int)) : List Value := rs.flatMap rcell
theorem rcells_length (rs : List (Int × Int)) : (rcells rs).length = rs.length * 2 := by
  induction rs with
  | nil => rfl
  | cons r rs ih => simp only [rcells, List.flatMap_cons, List.length_append, List.length_cons] at *; rw [ih]; simp [rcell]; omega
theorem rcells_append (a b : List (Int × Int)) : rcells (a ++ b) = rcells a ++ rcells b := by simp [rcells]
theorem rcells_snoc (a : List (Int × Int)) (r : Int × Int) : rcells (a ++ [r]) = rcells a ++ [.int .i64 r.1, .int .i64 r.2] := by rw [rcells_append]; simp [rcells, rcell]
theorem rcells_at (rs : List (Int × Int)) (j : Nat) (hj : j < rs.length) : (rcells rs)[j * 2]? = some (.int .i64 rs[j].1) ∧ (rcells rs)[j * 2 + 1]? = some (.int .i64 rs[j].2) := by
  induction rs generalizing j with
  | nil => cases hj
  | cons r rs ih =>
    cases j with
    | zero => simp [rcells, rcell]
    | succ j =>
      have h := ih j (by simpa using hj)
      have e : rcells (r :: rs) = .int .i64 r.1 :: .int .i64 r.2 :: rcells rs := rfl
      rw [e, show (j + 1) * 2 = j * 2 + 1 + 1 by omega]
      simpa using h
/-- the slice value v holds the ranges rs -/
def RangesAt (n₀ : Nat) (w : World) (v : Value) (rs : List (Int × Int)) : Prop := SliceAt n₀ w 2 v rs.length (rcells rs)
theorem RangesAt.later {A B : World} {v : Value} {rs : List (Int × Int)} (k : RangesAt A.heap.size A v rs) (h : Below A.heap.size A B) : RangesAt B.heap.size B v rs := (SliceAt.below h k).grow h.size
theorem RangesAt.form {n₀ : Nat} {w : World} {v : Value} {rs : List (Int × Int)} (h : RangesAt n₀ w v rs) :
    (v = .slice none 0 0 ∧ rs = []) ∨ ∃ b off cap, v = .slice (some ⟨b, off, none⟩) rs.length cap ∧ rs.length ≤ cap ∧ b < n₀ ∧ ∀ j (hj : j < rs.length), w.cell? ⟨b, off + j * 2, none⟩ = some (.int .i64 rs[j].1) ∧ w.cell? ⟨b, off + j * 2 + 1, none⟩ = some (.int .i64 rs[j].2) := by
  obtain ⟨hl, ⟨e, h⟩ | ⟨b, off, cap, e, hn, hb, hc⟩⟩ := h
  · exact .inl ⟨e, List.length_eq_zero_iff.1 h⟩
  · refine .inr ⟨b, off, cap, e, hn, hb, fun j hj => ⟨hc _ _ (rcells_at rs j hj).1, ?_⟩⟩
    have := hc _ _ (rcells_at rs j hj).2
    rwa [← Nat.add_assoc] at this
theorem RangesAt.of_owns {w : World} {base n : Nat} {e : TypeId} {v : Value} {rs : List (Int × Int)} (hn : n = rs.length) (h : w.ownsRow base e 2 v n (rcells rs)) : RangesAt w.heap.size w v rs := by
  subst hn; exact SliceAt.of_owns h

/-- a new slice of ranges, whose element type is e -/
def NewRanges (e : TypeId) (rs : List (Int × Int)) (w : World) (en : Ending) (w' : World) : Prop := ∃ v, en = .returned v ∧ w'.ownsRow w.heap.size e 2 v rs.length (rcells rs) ∧ Below w.heap.size w w'
theorem NewRanges.at {e : TypeId} {rs : List (Int × Int)} {w w' : World} {v : Value} (h : w'.ownsRow w.heap.size e 2 v rs.length (rcells rs)) : RangesAt w'.heap.size w' v rs := RangesAt.of_owns rfl h

/-- the even division -/
def bnd (n k : Int) (i : Nat) : Int := i * (n / k) + min (i : Int) (n % k)
def evenR (n k : Int) : List (Int × Int) := if n < 0 ∨ k < 1 then [] else (List.range k.toNat).map fun i => (bnd n k i, bnd n k (i + 1))
theorem bnd_zero (n k : Int) (hk : 0 < k) : bnd n k 0 = 0 := by
  have := Int.emod_nonneg n (Int.ne_of_gt hk)
  unfold bnd; simp; omega
theorem bnd_succ (n k : Int) (i : Nat) : bnd n k (i + 1) = bnd n k i + n / k + if (i : Int) < n % k then 1 else 0 := by
  unfold bnd
  rw [Int.natCast_add, Int.add_mul]
  split <;> omega
theorem bnd_last (n k : Int) (hk : 0 < k) : bnd n k k.toNat = n := by
  have h1 := Int.mul_ediv_add_emod n k
  have h2 := Int.emod_lt_of_pos n hk
  unfold bnd
  rw [Int.toNat_of_nonneg (by omega)]
  omega
theorem bnd_mono (n k : Int) (i : Nat) (hn : 0 ≤ n) (hk : 0 < k) : bnd n k i ≤ bnd n k (i + 1) := by
  have := Int.ediv_nonneg hn (Int.le_of_lt hk)
  rw [bnd_succ]; split <;> omega
theorem bnd_range (n k : Int) (i : Nat) (hn : 0 ≤ n) (hk : 0 < k) (hi : i ≤ k.toNat) : 0 ≤ bnd n k i ∧ bnd n k i ≤ n := by
  constructor
  · induction i with
    | zero => rw [bnd_zero n k hk]; omega
    | succ i ih => have := bnd_mono n k i hn hk; have := ih (by omega); omega
  · have key : ∀ d, d ≤ k.toNat → bnd n k (k.toNat - d) ≤ n := by
      intro d
      induction d with
      | zero => intro _; rw [Nat.sub_zero, bnd_last n k hk]; omega
      | succ d ih =>
        intro hd
        have h1 := ih (by omega)
        have h2 := bnd_mono n k (k.toNat - (d + 1)) hn hk
        rw [show k.toNat - (d + 1) + 1 = k.toNat - d by omega] at h2
        omega
    have := key (k.toNat - i) (by omega)
    rwa [show k.toNat - (k.toNat - i) = i by omega] at this
theorem evenR_in (n k : Int) (hn : 0 ≤ n) (hk : 0 < k) : evenR n k = (List.range k.toNat).map fun i => (bnd n k i, bnd n k (i + 1)) := by unfold evenR; rw [if_neg (by omega)]
theorem evenR_out (n k : Int) (h : n < 0 ∨ k < 1) : evenR n k = [] := by unfold evenR; rw [if_pos h]
theorem evenR_length (n k : Int) (hn : 0 ≤ n) (hk : 0 < k) : (evenR n k).length = k.toNat := by rw [evenR_in n k hn hk]; simp
/-- the first i ranges -/
def evenTo (n k : Int) (i : Nat) : List (Int × Int) := (List.range i).map fun j => (bnd n k j, bnd n k (j + 1))
theorem evenTo_succ (n k : Int) (i : Nat) : evenTo n k (i + 1) = evenTo n k i ++ [(bnd n k i, bnd n k (i + 1))] := by unfold evenTo; rw [List.range_succ, List.map_append]; rfl
theorem evenTo_all (n k : Int) (hn : 0 ≤ n) (hk : 0 < k) : evenTo n k k.toNat = evenR n k := (evenR_in n k hn hk).symm
theorem evenTo_length (n k : Int) (i : Nat) : (evenTo n k i).length = i := by unfold evenTo; simp

/-- blocks -/
def bl (n s : Int) (i : Nat) : Int := min (i * s) n
def blTo (n s : Int) (i : Nat) : List (Int × Int) := (List.range i).map fun j => (bl n s j, bl n s (j + 1))
def cntB (n s : Int) : Int := if n < 1 ∨ s < 1 then 0 else (n - 1) / s + 1
def blocksR (n s : Int) : List (Int × Int) := blTo n s (cntB n s).toNat
theorem blTo_succ (n s : Int) (i : Nat) : blTo n s (i + 1) = blTo n s i ++ [(bl n s i, bl n s (i + 1))] := by unfold blTo; rw [List.range_succ, List.map_append]; rfl
theorem blTo_length (n s : Int) (i : Nat) : (blTo n s i).length = i := by unfold blTo; simp
theorem cntB_out (n s : Int) (h : n < 1 ∨ s < 1) : cntB n s = 0 := by unfold cntB; rw [if_pos h]
theorem cntB_in (n s : Int) (hn : 1 ≤ n) (hs : 1 ≤ s) : cntB n s = (n - 1) / s + 1 := by unfold cntB; rw [if_neg (by omega)]
theorem cntB_range (n s : Int) : 0 ≤ cntB n s ∧ (cntB n s ≤ n ∨ cntB n s = 0) := by
  unfold cntB
  split
  · omega
  · have h1 := Int.ediv_nonneg (show 0 ≤ n - 1 by omega) (show 0 ≤ s by omega)
    have h2 := Int.ediv_le_self s (show 0 ≤ n - 1 by omega)
    omega
theorem cntB_lt (n s : Int) (i : Nat) (hn : 1 ≤ n) (hs : 1 ≤ s) : (i : Int) < cntB n s ↔ i * s < n := by
  rw [cntB_in n s hn hs]
  have h := Int.le_ediv_iff_mul_le (a := (i : Int)) (b := n - 1) (c := s) (by omega)
  omega
theorem bl_zero (n s : Int) (hn : 0 ≤ n) : bl n s 0 = 0 := by unfold bl; simp; omega
theorem bl_lt (n s : Int) (i : Nat) (h : i * s < n) : bl n s i = i * s := by unfold bl; omega
theorem bl_ge (n s : Int) (i : Nat) (h : n ≤ i * s) : bl n s i = n := by unfold bl; omega
theorem bl_succ (n s : Int) (i : Nat) : bl n s (i + 1) = i * s + min s (n - i * s) := by
  unfold bl
  rw [Int.natCast_add, Int.add_mul]
  simp only [Int.natCast_one, Int.one_mul]
  omega
theorem bl_mono (n s : Int) (i : Nat) (hs : 0 ≤ s) : bl n s i ≤ bl n s (i + 1) := by
  unfold bl
  rw [Int.natCast_add, Int.add_mul]
  simp only [Int.natCast_one, Int.one_mul]
  omega
/-- ranges that follow each other from a to b -/
def Chain : Int → List (Int × Int) → Int → Bool
  | a, [], b => a == b
  | a, r :: rs, b => r.1 == a && decide (a ≤ r.2) && Chain r.2 rs b
theorem chain_append (a : Int) (rs : List (Int × Int)) (r : Int × Int) (b : Int) (h : Chain a rs r.1 = true) (hr : r.1 ≤ r.2) (hb : r.2 = b) : Chain a (rs ++ [r]) b = true := by
  induction rs generalizing a with
  | nil =>
    simp only [Chain, beq_iff_eq] at h
    simp [Chain, h, hb]; omega
  | cons x xs ih =>
    simp only [Chain, List.cons_append, Bool.and_eq_true] at h ⊢
    exact ⟨h.1, ih _ h.2⟩
theorem chain_evenTo (n k : Int) (i : Nat) (hn : 0 ≤ n) (hk : 0 < k) : Chain 0 (evenTo n k i) (bnd n k i) = true := by
  induction i with
  | zero => rw [bnd_zero n k hk]; rfl
  | succ i ih => rw [evenTo_succ]; exact chain_append _ _ _ _ ih (bnd_mono n k i hn hk) rfl
theorem chain_even (n k : Int) (hn : 0 ≤ n) (hk : 0 < k) : Chain 0 (evenR n k) n = true := by
  have := chain_evenTo n k k.toNat hn hk
  rwa [evenTo_all n k hn hk, bnd_last n k hk] at this
theorem chain_blTo (n s : Int) (i : Nat) (hn : 0 ≤ n) (hs : 0 ≤ s) : Chain 0 (blTo n s i) (bl n s i) = true := by
  induction i with
  | zero => rw [bl_zero n s hn]; rfl
  | succ i ih => rw [blTo_succ]; exact chain_append _ _ _ _ ih (bl_mono n s i hs) rfl
theorem chain_blocks (n s : Int) (hn : 1 ≤ n) (hs : 1 ≤ s) : Chain 0 (blocksR n s) n = true := by
  have h := chain_blTo n s (cntB n s).toNat (by omega) (by omega)
  have h1 := cntB_lt n s (cntB n s).toNat hn hs
  have h2 := (cntB_range n s).1
  rw [bl_ge n s _ (by omega)] at h
  exact h
theorem blocksR_out (n s : Int) (h : n < 1 ∨ s < 1) : blocksR n s = [] := by unfold blocksR; rw [cntB_out n s h]; rfl
theorem blocksR_length (n s : Int) : ((blocksR n s).length : Int) = cntB n s := by
  unfold blocksR; rw [blTo_length]; exact Int.toNat_of_nonneg (cntB_range n s).1
/-- the first range from the number k on that has an index -/
def findR (i : Int) : List (Int × Int) → Nat → Int
  | [], _ => -1
  | r :: rs, k => if r.1 ≤ i ∧ i < r.2 then k else findR i rs (k + 1)
theorem findR_range (i : Int) (rs : List (Int × Int)) (k : Nat) : -1 ≤ findR i rs k ∧ findR i rs k ≤ k + rs.length := by
  induction rs generalizing k with
  | nil => simp [findR]
  | cons r rs ih =>
    have := ih (k + 1)
    simp only [findR, List.length_cons]
    split <;> omega
end Go.Proofs.YtdnaildhcnekfaaDoor
