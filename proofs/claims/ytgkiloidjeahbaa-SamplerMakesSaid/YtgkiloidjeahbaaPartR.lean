/- The reference's Even deals the indices out one by one: its ranges are those of the even division. -/
import Derived.Test.YtgkiloidjeahbaaPartE
namespace Go.Proofs.Ytgkiloidjeahbaa
open Go.RowKit

/-- how many of the first t indices are dealt to each of k -/
def dealt (t k : Nat) : List Int := (List.range k).map fun j => ((t / k : Nat) : Int) + if j < t % k then 1 else 0
theorem dealt_length (t k : Nat) : (dealt t k).length = k := by simp [dealt]
theorem dealt_zero (k : Nat) : dealt 0 k = List.replicate k 0 := by
  apply List.ext_getElem
  · simp [dealt]
  · intro i h1 h2; simp [dealt]
theorem dealt_get (t k j : Nat) (hj : j < k) : (dealt t k)[j]? = some (((t / k : Nat) : Int) + if j < t % k then 1 else 0) := by simp [dealt, hj]
theorem dealt_here (t k : Nat) (hk : 0 < k) : (dealt t k)[t % k]? = some ((t / k : Nat) : Int) := by
  rw [dealt_get t k _ (Nat.mod_lt _ hk), if_neg (Nat.lt_irrefl _), Int.add_zero]
theorem dealt_step (t k : Nat) (hk : 0 < k) : (dealt t k).set (t % k) (((t / k : Nat) : Int) + 1) = dealt (t + 1) k := by
  have hm := Nat.mod_lt t hk
  have h1 : (t + 1) / k = if t % k + 1 = k then t / k + 1 else t / k := by
    have e := Nat.div_add_mod t k
    split
    · next h =>
      have : t + 1 = k * (t / k + 1) := by rw [Nat.mul_add]; omega
      rw [this, Nat.mul_div_cancel_left _ hk]
    · next h =>
      have : t + 1 = k * (t / k) + (t % k + 1) := by omega
      rw [this, Nat.mul_add_div hk, Nat.div_eq_of_lt (show t % k + 1 < k by omega)]; omega
  have h2 : (t + 1) % k = if t % k + 1 = k then 0 else t % k + 1 := by
    have e := Nat.div_add_mod t k
    split
    · next h =>
      have : t + 1 = k * (t / k + 1) := by rw [Nat.mul_add]; omega
      rw [this, Nat.mul_mod_right]
    · next h =>
      have : t + 1 = k * (t / k) + (t % k + 1) := by omega
      rw [this, Nat.mul_add_mod, Nat.mod_eq_of_lt (show t % k + 1 < k by omega)]
  apply List.ext_getElem
  · simp [dealt]
  · intro i a b
    have hi : i < k := by simpa [dealt] using b
    rw [List.getElem_set]
    simp only [dealt, List.getElem_map, List.getElem_range, h1, h2]
    repeat' split
    all_goals omega
theorem dealt_bnd (n k j : Nat) : bnd n k j + (((n / k : Nat) : Int) + if j < n % k then 1 else 0) = bnd n k (j + 1) := by
  rw [bnd_succ, Int.natCast_ediv, ← Int.natCast_emod]
  have : ((j : Int) < ((n % k : Nat) : Int)) ↔ j < n % k := Int.ofNat_lt
  simp only [this]
  omega

theorem ints_row {w : World} {base g cap n : Nat} {e : TypeId} {zs : List Int} {j : Nat} {z : Int} (h : w.ownsRow base e 1 (.slice (some ⟨g, 0, none⟩) n cap) n (zs.map (Value.int .i64))) (hj : j < n) (hz : zs[j]? = some z) : w.cell? ⟨g, j, none⟩ = some (.int .i64 z) := by
  rw [h.cellAt j (by omega), List.getElem?_map, hz]; rfl

set_option maxHeartbeats 2000000 in
theorem refEven_in (n k : Nat) (hn : n ≤ 1048576) (hk0 : 0 < k) (hk1 : k ≤ 1048576) (w : World) :
    Calls Try.prog 41 #[.int .i64 n, .int .i64 k] w (NewRanges 89 (evenR n k) w) := by
  have hmk := run_make_elem elemI .i64 .i64 k (by omega) (by omega)
  go_enter Try.func41, Try.ntmps41
  go_wp2
  have ho := owns_made (w := w) (base := w.heap.size) (e := 3) (size := 1) (n := k) (u := .int .i64 0) (z := #[.int .i64 0]) rfl (by decide) (Nat.le_refl _) (by unfold maxLen; omega)
  have ho1 : (w.alloc (.cells (madeCells #[.int .i64 0] (k * 1)) 3)).ownsRow w.heap.size 3 1 (.slice (some ⟨w.heap.size, 0, none⟩) k k) k ((dealt 0 k).map (Value.int .i64)) := by
    rw [dealt_zero, List.map_replicate]; rw [Nat.mul_one] at ho; rw [Nat.mul_one]; exact ho
  go_loopw [6] (fun i wr => ∃ t : Nat, t ≤ n ∧ i = .int .i64 t ∧ wr.ownsRow w.heap.size 3 1 (.slice (some ⟨w.heap.size, 0, none⟩) k k) k ((dealt t k).map (Value.int .i64)) ∧ Below w.heap.size w wr ∧ w.heap.size < wr.heap.size) (fun i _ => n - (intOf i).toNat)
  case atStart => exact ⟨0, Nat.zero_le _, rfl, by first | exact ho1 | simpa using ho1, (Below.refl _ _).alloc (Nat.le_refl _) _, by simp⟩
  case round =>
    obtain ⟨t, ht, rfl, hown, hB, hz⟩ := hrel
    clear ho ho1 hmk
    by_cases hlt : t < n
    · have hm := Nat.mod_lt t hk0
      have hc := ints_row hown hm (dealt_here t k hk0)
      have hf := hown.frozenAt (t % k)
      have hq : (t : Int) / k ≤ t := Int.ediv_le_self _ (by omega)
      have hq0 : 0 ≤ (t : Int) / k := Int.ediv_nonneg (by omega) (by omega)
      have hs : (wr.setCell ⟨w.heap.size, t % k, none⟩ (.int .i64 ((t : Int) / k + 1))).ownsRow w.heap.size 3 1 (.slice (some ⟨w.heap.size, 0, none⟩) k k) k ((dealt (t + 1) k).map (Value.int .i64)) := by
        have h := (hown.stored (t % k) (.int .i64 (((t / k : Nat) : Int) + 1))).1
        rw [← List.map_set, dealt_step t k hk0] at h
        exact h
      have HS := Lib.hid hs
      clear hown hs
      go_wp2
      go_roundw
      case rel => exact ⟨t + 1, by omega, by go_num, HS.out, hB.setCell (p := ⟨w.heap.size, t % k, none⟩) (Nat.le_refl _) _, by simpa [World.setCell] using hz⟩
      case measure => simp [intOf]; omega
    · have ht' : t = n := by omega
      subst ht'
      go_wp2
      go_loopw [7, 8, 9] (fun v a i wr => ∃ j : Nat, j ≤ k ∧ i = .int .i64 j ∧ a = .int .i64 (bnd t k j) ∧ wr.ownsRow w.heap.size 3 1 (.slice (some ⟨w.heap.size, 0, none⟩) k k) k ((dealt t k).map (Value.int .i64)) ∧ wr.ownsRow (w.heap.size + 1) 89 2 v j (rcells (evenTo t k j)) ∧ Below w.heap.size w wr ∧ w.heap.size < wr.heap.size) (fun _ _ i _ => k - (intOf i).toNat)
      case atStart => exact ⟨0, Nat.zero_le _, rfl, by rw [bnd_zero _ _ (by omega)], hown, World.ownsRow_nil _ _ _ _, hB, hz⟩
      case round =>
        clear hown hB hz
        rename_i w2 wr2
        obtain ⟨j, hj, rfl, rfl, hown, hout, hB, hz⟩ := hrel
        by_cases hlt : j < k
        · have b0 := bnd_range t k j (by omega) (by omega) (by omega)
          have b1 := bnd_range t k (j + 1) (by omega) (by omega) (by omega)
          have hd := dealt_bnd t k j
          have hc := ints_row hown hlt (dealt_get t k j hlt)
          generalize (((t / k : Nat) : Int) + if j < t % k then 1 else 0) = D at hc hd
          have hw1 : IntKind.i64.wrap (bnd t k j + D) = bnd t k (j + 1) := by rw [hd]; exact IntWalk.i64_in _ (by omega)
          have HE := Lib.hid (evenTo_succ t k j)
          have HW := Lib.hid hown
          have HO := Lib.hid hout
          have HD := Lib.hid hd
          clear hown hout hd
          go_wp2_with (at_builtin; refine append_one elemRR rfl _ _ rfl rfl rfl HO.out rfl ?_ ?_ ?_ ?_ ?_; (simp [Value.oneCell']); (unfold maxLen; omega); omega; omega; intro v' w' ho' hg'; have hg := Lib.hid (show wr.grownBy w' u7.ownBlock from hg'); clear hg'; have HW' := Lib.hid (HW.out.kept hg.out (own_apart (B := w.heap.size) HW.out HO.out rfl (by omega))); have hB' := HO.out.lt; have hcc := (hg.out.block w.heap.size hz (fun h => by have := (HO.out.lt _ h.symm).1; omega)); have hc' : w'.cell? ⟨w.heap.size, j, none⟩ = some (.int .i64 D) := (World.cell?_of_block (a := ⟨w.heap.size, j, none⟩) hcc).trans hc; have HO' := Lib.hid ho'; clear ho' hcc hB')
          go_roundw
          case rel => exact ⟨j + 1, by omega, by go_num, rfl, HW'.out, by rw [HE.out, rcells_snoc]; exact HO'.out, below_appended hB HO.out hg.out (by omega) (by omega), by have := hg.out.size; omega⟩
          case measure => simp [intOf]; omega
        · have hj' : j = k := by omega
          subst hj'
          have HO := Lib.hid hout
          have HA := Lib.hid (evenTo_all t j (by omega) (by omega))
          clear hown hout
          go_wp2
          go_ret
          have h := HO.out
          rw [show (j : Int).toNat = j from rfl] at HA
          rw [← HA.out]
          exact ⟨_, rfl, by rw [evenTo_length]; exact owns_mono (Nat.le_succ _) h, hB⟩
/-- the whole of the reference's Even -/
theorem refEven_any (n k : Int) (hn : n ≤ 1048576) (hk : k ≤ 1048576) (hn0 : -9223372036854775808 ≤ n) (hk0 : -9223372036854775808 ≤ k) (w : World) :
    Calls Try.prog 41 #[.int .i64 n, .int .i64 k] w (NewRanges 89 (evenR n k) w) := by
  by_cases h : 0 ≤ n ∧ 0 < k
  · obtain ⟨a, rfl⟩ := Int.eq_ofNat_of_zero_le h.1
    obtain ⟨b, rfl⟩ := Int.eq_ofNat_of_zero_le (Int.le_of_lt h.2)
    exact refEven_in a b (by omega) (by omega) (by omega) w
  · have H := Lib.hid (evenR_out n k (by omega))
    have h' : n < 0 ∨ ¬ n < 0 ∧ k < 1 := by omega
    clear h
    rcases h' with h | h
    all_goals
      go_enter Try.func41, Try.ntmps41
      go_wp2
      go_ret
      rw [H.out]
      exact ⟨_, rfl, World.ownsRow_nil _ _ _ _, Below.refl _ _⟩
end Go.Proofs.Ytgkiloidjeahbaa
