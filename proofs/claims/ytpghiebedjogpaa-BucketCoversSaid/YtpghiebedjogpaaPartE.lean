/- part.Even: its ranges are those of the even division, in a slice of the call's own. -/
import Derived.Test.YtpghiebedjogpaaProg
import Derived.Test.YtpghiebedjogpaaPartM
import Derived.ProofKit
import Derived.Outline
namespace Go.Proofs.Ytpghiebedjogpaa
open Go.RowKit
theorem elemPR : Elem Try.prog 28 33 (.agg #[.int .i64 0, .int .i64 0]) 2 16 := ⟨Try.underlying28, info_parts (by kernel_rfl), rfl, by decide⟩
theorem elemRR : Elem Try.prog 24 26 (.agg #[.int .i64 0, .int .i64 0]) 2 16 := ⟨Try.underlying24, info_parts (by kernel_rfl), rfl, by decide⟩
theorem elemI : Elem Try.prog 51 3 (.int .i64 0) 1 8 := ⟨Try.underlying51, info_parts (by kernel_rfl), rfl, by decide⟩
theorem set_pair (A : List Value) (m i : Nat) (x y z : Value) (h : A.length = i * 2) : ((A ++ List.replicate (m + 2) z).set (i * 2) x).set (i * 2 + 1) y = A ++ [x, y] ++ List.replicate m z := by
  rw [List.set_append_right _ _ (by omega), List.set_append_right _ _ (by omega), h, show i * 2 - i * 2 = 0 by omega, show i * 2 + 1 - i * 2 = 1 by omega]
  simp [List.replicate_succ]
theorem own_pair {wr : World} {base g k cap n i m : Nat} {e : TypeId} {A : List Value} {x y z : Value} (h : wr.ownsRow base e 2 (.slice (some ⟨g, 0, none⟩) n cap) n (A ++ List.replicate k z)) (hA : A.length = i * 2) (hm : k = m + 2) :
    ((wr.setCell ⟨g, i * 2, none⟩ x).setCell ⟨g, i * 2 + 1, none⟩ y).ownsRow base e 2 (.slice (some ⟨g, 0, none⟩) n cap) n (A ++ [x, y] ++ List.replicate m z) := by
  have h2 := ((h.stored (i * 2) x).1.stored (i * 2 + 1) y).1
  subst hm
  rw [set_pair A m i x y z hA] at h2
  exact h2
/-- what a round of such a loop leaves -/
theorem pair_done {w wr : World} {g k i n : Nat} {e : TypeId} {rs : List (Int × Int)} {lo hi : Int} (h : wr.ownsRow w.heap.size e 2 (.slice (some ⟨g, 0, none⟩) k n) k (rcells rs ++ List.replicate ((k - i) * 2) (.int .i64 0))) (hl : rs.length = i) (hi' : i < k) :
    ((wr.setCell ⟨g, i * 2, none⟩ (.int .i64 lo)).setCell ⟨g, i * 2 + 1, none⟩ (.int .i64 hi)).ownsRow w.heap.size e 2 (.slice (some ⟨g, 0, none⟩) k n) k (rcells (rs ++ [(lo, hi)]) ++ List.replicate ((k - (i + 1)) * 2) (.int .i64 0)) := by
  rw [rcells_snoc]
  exact own_pair h (by rw [rcells_length, hl]) (by omega)
theorem pair_below {w wr : World} {i : Nat} {x y : Value} (h : Below w.heap.size w wr) : Below w.heap.size w ((wr.setCell ⟨w.heap.size, i * 2, none⟩ x).setCell ⟨w.heap.size, i * 2 + 1, none⟩ y) :=
  (h.setCell (p := ⟨w.heap.size, i * 2, none⟩) (Nat.le_refl _) _).setCell (p := ⟨w.heap.size, i * 2 + 1, none⟩) (Nat.le_refl _) _
set_option maxHeartbeats 1000000 in
theorem even_in (n k : Nat) (hn : n ≤ 1048576) (hk0 : 0 < k) (hk1 : k ≤ 1048576) (w : World) :
    Calls Try.prog 28 #[.int .i64 n, .int .i64 k] w (NewRanges 33 (evenR n k) w) := by
  have hq0 : 0 ≤ (n : Int) / k := Int.ediv_nonneg (by omega) (by omega)
  have hq1 : (n : Int) / k ≤ n := Int.ediv_le_self _ (by omega)
  have hr0 := Int.emod_nonneg (n : Int) (show (k : Int) ≠ 0 by omega)
  have hmk := run_make_elem elemPR .i64 .i64 k (by omega) (by omega)
  go_enter Try.func28, Try.ntmps28
  go_wp2
  go_quiet (fail)
  go_wp2
  have ho := owns_made (w := w) (base := w.heap.size) (e := 33) (size := 2) (n := k) (u := .int .i64 0) (z := #[.int .i64 0, .int .i64 0]) rfl (by decide) (Nat.le_refl _) (by unfold maxLen; omega)
  go_loopw [8, 9, 10, 26] (fun lo _ _ i wr => ∃ j : Nat, j ≤ k ∧ i = .int .i64 j ∧ lo = .int .i64 (bnd n k j) ∧ wr.ownsRow w.heap.size 33 2 (.slice (some ⟨w.heap.size, 0, none⟩) k k) k (rcells (evenTo n k j) ++ List.replicate ((k - j) * 2) (.int .i64 0)) ∧ Below w.heap.size w wr) (fun _ _ _ i _ => k - (intOf i).toNat)
  case atStart => exact ⟨0, Nat.zero_le _, rfl, by rw [bnd_zero _ _ (by omega)], ho, below_drewN ((Below.refl _ _).alloc (Nat.le_refl _) _) _⟩
  case round =>
    obtain ⟨j, hj, rfl, rfl, hown, hB⟩ := hrel
    clear ho hmk
    by_cases hlt : j < k
    · have b0 := bnd_range n k j (by omega) (by omega) (by omega)
      have b1 := bnd_range n k (j + 1) (by omega) (by omega) (by omega)
      have bs := bnd_succ n k j
      have hc0 : ∃ u, wr.cell? ⟨w.heap.size, j * 2, none⟩ = some u := by
        rw [hown.cellAt _ (by omega)]; exact ⟨_, List.getElem?_eq_getElem (by rw [List.length_append, rcells_length, evenTo_length, List.length_replicate]; omega)⟩
      have hc1 : ∃ u, wr.cell? ⟨w.heap.size, j * 2 + 1, none⟩ = some u := by
        rw [hown.cellAt _ (by omega)]; exact ⟨_, List.getElem?_eq_getElem (by rw [List.length_append, rcells_length, evenTo_length, List.length_replicate]; omega)⟩
      have hf0 := hown.frozenAt (j * 2)
      have hf1 := hown.frozenAt (j * 2 + 1)
      obtain ⟨u0, hc0⟩ := hc0
      obtain ⟨u1, hc1⟩ := hc1
      have HE := Lib.hid (evenTo_succ n k j)
      have HL := Lib.hid (evenTo_length n k j)
      by_cases hg : (j : Int) < (n : Int) % k
      all_goals
        first | rw [if_pos hg] at bs | rw [if_neg hg, Int.add_zero] at bs
        have BS := Lib.hid bs
        have HO := Lib.hid hown
        clear bs hown
        go_wp2
        go_roundw
        case rel => exact ⟨j + 1, by omega, by go_num, by rw [BS.out], by rw [HE.out, BS.out]; exact pair_done HO.out HL.out hlt, pair_below hB⟩
        case measure => simp [intOf]; omega
    · have hj' : j = k := by omega
      subst hj'
      have HO := Lib.hid hown
      have HA := Lib.hid (evenTo_all n j (by omega) (by omega))
      clear hown
      go_wp2
      go_ret
      have h := HO.out
      rw [Nat.sub_self, Nat.zero_mul, List.replicate_zero, List.append_nil] at h
      rw [show (j : Int).toNat = j from rfl] at HA
      rw [← HA.out]
      exact ⟨_, rfl, by rw [evenTo_length]; exact h, hB⟩
/-- the whole of Even: any number of indices up to 2^20, any number of ranges up to 2^20 -/
theorem even_any (n k : Int) (hn : n ≤ 1048576) (hk : k ≤ 1048576) (hn0 : -9223372036854775808 ≤ n) (hk0 : -9223372036854775808 ≤ k) (w : World) :
    Calls Try.prog 28 #[.int .i64 n, .int .i64 k] w (NewRanges 33 (evenR n k) w) := by
  by_cases h : 0 ≤ n ∧ 0 < k
  · obtain ⟨a, rfl⟩ := Int.eq_ofNat_of_zero_le h.1
    obtain ⟨b, rfl⟩ := Int.eq_ofNat_of_zero_le (Int.le_of_lt h.2)
    exact even_in a b (by omega) (by omega) (by omega) w
  · have H := Lib.hid (evenR_out n k (by omega))
    have h' : n < 0 ∨ ¬ n < 0 ∧ k < 1 := by omega
    clear h
    rcases h' with h | h
    all_goals
      go_enter Try.func28, Try.ntmps28
      go_wp2
      go_ret
      rw [H.out]
      exact ⟨_, rfl, World.ownsRow_nil _ _ _ _, Below.refl _ _⟩
end Go.Proofs.Ytpghiebedjogpaa
