/- The reference's Even deals the indices out one by one: its ranges are those of the even division. -/
import Derived.Test.YtdnaildhcnekfaaDoorPartE
namespace Go.Proofs.YtdnaildhcnekfaaDoor
open Go.RowKit

/-- how many of the first t indices are dealt to each of k -/
def dealt (t k : Nat) : List Int := (List.range k).map fun j => ((t / k : Nat) : Int) + if j < t % k then 1 else 0
theorem dealt_length (t k : Nat) : (dealt t k).length = k := by simp [dealt]
theorem dealt_zero (k : Nat) : dealt 0 k = List.replicate k 0 := by
  apply List.ext_getElem
  · simp [dealt]
  · intro i h1 h2; simp [dealt]
theorem dealt_get (t k j : Nat) (hj : j < k) : (dealt t k)[j]? = some (((t / k : Nat) : Int) + if j < t % k then 1 else 0) := by simp [dealt, hj]
theorem dealt_here (t k : Nat) (hk : 0 < k) : (dealt t k)[t % k]? = some ((t / k : Nat) : Int) := by
  rw [dealt_get t k _ (Nat.mod_lt _ hk), if_neg (Nat.lt_irrefl _), Int.add_zero]
theorem dealt_step (t k : Nat) (hk : 0 < k) : (dealt t k).set (t % k) (((t / k : Nat) : Int) + 1) = dealt (t + 1) k := by
  have hm := Nat.mod_lt t hk
  have h1 : (t + 1) / k = if t % k + 1 = k then t / k + 1 else t / k := by
    have e := Nat.div_add_mod t k
    split
    · next h =>
      have : t + 1 = k * (t / k + 1) := by rw [Nat.mul_add]; omega
      rw [this, Nat.mul_div_cancel_left _ hk]
    · next h =>
      have : t + 1 = k * (t / k) + (t % k + 1) := by omega
      rw [this, Nat.mul_add_div hk, Nat.div_eq_of_lt (show t % k + 1 < k by omega)]; omega
  have h2 : (t + 1) % k = if t % k + 1 = k then 0 else t % k + 1 := by
    have e := Nat.div_add_mod t k
    split
    · next h =>
      have : t + 1 = k * (t / k + 1) := by rw [Nat.mul_add]; omega
      rw [this, Nat.mul_mod_right]
    · next h =>
      have : t + 1 = k * (t / k) + (t % k + 1) := by omega
      rw [this, Nat.mul_add_mod, Nat.mod_eq_of_lt (show t % k + 1 < k by omega)]
  apply List.ext_getElem
  · simp [dealt]
  · intro i a b
    have hi : i < k := by simpa [dealt] using b
    rw [List.getElem_set]
    simp only [dealt, List.getElem_map, List.getElem_range, h1, h2]
    repeat' split
    all_goals omega
theorem dealt_bnd (n k j : Nat) : bnd n k j + (((n / k : Nat) : Int) + if j < n % k then 1 else 0) = bnd n k (j + 1) := by
  rw [bnd_succ, Int.natCast_ediv, ← Int.natCast_emod]
  have : ((j : Int) < ((n % k : Nat) : Int)) ↔ j < n % k := Int.ofNat_lt
  simp only [this]
  omega

theorem ints_row {w : World} {base g cap n : Nat} {e : TypeId} {zs : List Int} {j : Nat} {z : Int} (h : w.ownsRow base e 1 (.slice (some ⟨g, 0, none⟩) n cap) n (zs.map (Value.int .i64))) (hj : j < n) (hz : zs[j]? = some z) : w.cell? ⟨g, j, none⟩ = some (.int .i64 z) := by
  rw [h.cellAt j (by omega), List.getElem?_map, hz]; rfl

end Go.Proofs.YtdnaildhcnekfaaDoor
