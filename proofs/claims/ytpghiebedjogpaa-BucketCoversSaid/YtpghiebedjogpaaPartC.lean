/- What the other functions of package part, of its reference and of its laws' helpers return. -/
import Derived.Test.YtpghiebedjogpaaPartR
namespace Go.Proofs.Ytpghiebedjogpaa
open Go.RowKit

theorem count_any (n s : Int) (hn : -9223372036854775808 ≤ n) (hn1 : n ≤ 9223372036854775807) (hs : -9223372036854775808 ≤ s) (hs1 : s ≤ 9223372036854775807) (w : World) :
    Calls Try.prog 32 #[.int .i64 n, .int .i64 s] w fun e w' => e = .returned (.int .i64 (cntB n s)) ∧ w = w' := by
  by_cases h : 1 ≤ n ∧ 1 ≤ s
  · have H := Lib.hid (cntB_in n s h.1 h.2)
    have h1 := h.1
    have h2 := h.2
    have q1 := Int.ediv_nonneg (show 0 ≤ n - 1 by omega) (show 0 ≤ s by omega)
    have q2 := Int.ediv_le_self s (show 0 ≤ n - 1 by omega)
    clear h
    go_enter Try.func32, Try.ntmps32
    go_wp2
    go_ret
    exact ⟨ret_i H.out.symm, rfl⟩
  · have H := Lib.hid (cntB_out n s (by omega))
    have h' : n < 1 ∨ ¬ n < 1 ∧ s < 1 := by omega
    clear h
    rcases h' with h | h
    all_goals
      go_enter Try.func32, Try.ntmps32
      go_wp2
      go_ret
      exact ⟨ret_i H.out.symm, rfl⟩

set_option maxHeartbeats 1000000 in
theorem blocks_any (n s : Int) (hn : -9223372036854775808 ≤ n) (hn1 : n ≤ 1048576) (hs : -9223372036854775808 ≤ s) (hs1 : s ≤ 9223372036854775807) (w : World) :
    Calls Try.prog 24 #[.int .i64 n, .int .i64 s] w (NewRanges 33 (blocksR n s) w) := by
  obtain ⟨c, hc⟩ := Int.eq_ofNat_of_zero_le (cntB_range n s).1
  have hcr := (cntB_range n s).2
  have hcb : c ≤ 1048576 := by omega
  have hlt0 : ∀ i : Nat, i < c → i * s < n ∧ 1 ≤ n ∧ 1 ≤ s := by
    intro i hi
    have h1 : 1 ≤ n ∧ 1 ≤ s := by
      apply Classical.byContradiction; intro hh
      have := cntB_out n s (by omega); omega
    exact ⟨(cntB_lt n s i h1.1 h1.2).1 (by omega), h1.1, h1.2⟩
  have C := fun W => count_any n s hn (by omega) hs hs1 W
  have HB : Hid (blocksR n s = blTo n s c) := Lib.hid (by unfold blocksR; rw [hc]; rfl)
  rw [hc] at C
  have hmk := run_make_elem elemPR .i64 .i64 c (by omega) (by omega)
  clear hc hcr
  go_enter Try.func24, Try.ntmps24
  go_wp2_with (go_at_call 32; refine (C _).mono ?_; rintro e w' ⟨rfl, rfl⟩)
  have ho := owns_made (w := w) (base := w.heap.size) (e := 33) (size := 2) (n := c) (u := .int .i64 0) (z := #[.int .i64 0, .int .i64 0]) rfl (by decide) (Nat.le_refl _) (by unfold maxLen; omega)
  go_loopw [6, 7, 14] (fun _ _ i wr => ∃ j : Nat, j ≤ c ∧ i = .int .i64 j ∧ wr.ownsRow w.heap.size 33 2 (.slice (some ⟨w.heap.size, 0, none⟩) c c) c (rcells (blTo n s j) ++ List.replicate ((c - j) * 2) (.int .i64 0)) ∧ Below w.heap.size w wr) (fun _ _ i _ => c - (intOf i).toNat)
  case atStart => exact ⟨0, Nat.zero_le _, rfl, ho, (Below.refl _ _).alloc (Nat.le_refl _) _⟩
  case round =>
    obtain ⟨j, hj, rfl, hown, hB⟩ := hrel
    clear ho hmk
    by_cases hlt : j < c
    · obtain ⟨g1, g2, g3⟩ := hlt0 j hlt
      have hc0 : ∃ u, wr.cell? ⟨w.heap.size, j * 2, none⟩ = some u := by
        rw [hown.cellAt _ (by omega)]; exact ⟨_, List.getElem?_eq_getElem (by rw [List.length_append, rcells_length, blTo_length, List.length_replicate]; omega)⟩
      have hc1 : ∃ u, wr.cell? ⟨w.heap.size, j * 2 + 1, none⟩ = some u := by
        rw [hown.cellAt _ (by omega)]; exact ⟨_, List.getElem?_eq_getElem (by rw [List.length_append, rcells_length, blTo_length, List.length_replicate]; omega)⟩
      have hf0 := hown.frozenAt (j * 2)
      have hf1 := hown.frozenAt (j * 2 + 1)
      obtain ⟨u0, hc0⟩ := hc0
      obtain ⟨u1, hc1⟩ := hc1
      have HE := Lib.hid (blTo_succ n s j)
      have HL := Lib.hid (blTo_length n s j)
      have HS := Lib.hid (show bl n s (j + 1) = j * s + if n - j * s < s then n - j * s else s by rw [bl_succ]; split <;> omega)
      have HT := Lib.hid (bl_lt n s j g1)
      have HO := Lib.hid hown
      have hp0 : 0 ≤ (j : Int) * s := Int.mul_nonneg (by omega) (by omega)
      clear hown hlt0
      go_wp2
      go_roundw
      case rel => exact ⟨j + 1, by omega, by go_num, by rw [HE.out, HT.out, HS.out]; exact pair_done HO.out HL.out hlt, pair_below hB⟩
      case measure => simp [intOf]; omega
    · have hj' : j = c := by omega
      subst hj'
      have HO := Lib.hid hown
      clear hown hlt0
      go_wp2
      go_ret
      have h := HO.out
      rw [Nat.sub_self, Nat.zero_mul, List.replicate_zero, List.append_nil] at h
      rw [HB.out]
      exact ⟨_, rfl, by rw [blTo_length]; exact h, hB⟩

set_option maxHeartbeats 1000000 in
theorem refBlocks_any (n s : Int) (hn : -9223372036854775808 ≤ n) (hn1 : n ≤ 1048576) (hs : -9223372036854775808 ≤ s) (hs1 : s ≤ 9223372036854775807) (w : World) :
    Calls Try.prog 26 #[.int .i64 n, .int .i64 s] w (NewRanges 26 (blocksR n s) w) := by
  by_cases h : 1 ≤ n ∧ 1 ≤ s
  · obtain ⟨h1, h2⟩ := h
    go_enter Try.func26, Try.ntmps26
    go_wp2
    go_loopw [5, 6, 7] (fun v lo _ wr => ∃ j : Nat, (j : Int) ≤ cntB n s ∧ lo = .int .i64 (bl n s j) ∧ wr.ownsRow w.heap.size 26 2 v j (rcells (blTo n s j)) ∧ Below w.heap.size w wr) (fun _ lo _ _ => (n - intOf lo).toNat)
    case atStart => exact ⟨0, (cntB_range n s).1, by rw [bl_zero n s (by omega)], World.ownsRow_nil _ _ _ _, Below.refl _ _⟩
    case round =>
      obtain ⟨j, hj, rfl, hown, hB⟩ := hrel
      have hcr := cntB_range n s
      by_cases hlt : j * s < n
      · have HT := bl_lt n s j hlt
        have hj1 := (cntB_lt n s j h1 h2).2 hlt
        have hp0 : 0 ≤ (j : Int) * s := Int.mul_nonneg (by omega) (by omega)
        have HS := bl_succ n s j
        have HE := Lib.hid (blTo_succ n s j)
        have HO := Lib.hid hown
        clear hown
        rw [HT]
        have HT' := Lib.hid HT
        clear HT
        generalize (j : Int) * s = lo at *
        by_cases hg : s < n - lo
        · have HS' := Lib.hid (show bl n s (j + 1) = lo + s by rw [HS]; omega)
          clear HS
          go_wp2_with (at_builtin; refine append_one elemRR rfl _ _ rfl rfl rfl HO.out rfl ?_ ?_ ?_ ?_ ?_; (simp [Value.oneCell']); (unfold maxLen; omega); omega; (exact hB.size); intro v' w' ho' hg'; have hg2 := Lib.hid (show wr.grownBy w' u5.ownBlock from hg'); clear hg'; have HO' := Lib.hid ho'; clear ho')
          go_roundw
          case rel => exact ⟨j + 1, by omega, by rw [HS'.out], by rw [HE.out, rcells_snoc, HT'.out, HS'.out]; exact HO'.out, below_appended hB HO.out hg2.out (Nat.le_refl _) hB.size⟩
          case measure => simp [intOf]; omega
        · have HS' := Lib.hid (show bl n s (j + 1) = n by rw [HS]; omega)
          clear HS
          go_wp2_with (at_builtin; refine append_one elemRR rfl _ _ rfl rfl rfl HO.out rfl ?_ ?_ ?_ ?_ ?_; (simp [Value.oneCell']); (unfold maxLen; omega); omega; (exact hB.size); intro v' w' ho' hg'; have hg2 := Lib.hid (show wr.grownBy w' u5.ownBlock from hg'); clear hg'; have HO' := Lib.hid ho'; clear ho')
          go_roundw
          case rel => exact ⟨j + 1, by omega, by rw [HS'.out], by rw [HE.out, rcells_snoc, HT'.out, HS'.out]; exact HO'.out, below_appended hB HO.out hg2.out (Nat.le_refl _) hB.size⟩
          case measure => simp [intOf]; omega
      · have HT := bl_ge n s j (by omega)
        have hc : cntB n s ≤ j := by
          have := cntB_lt n s j h1 h2
          omega
        have HO := Lib.hid hown
        clear hown
        rw [HT]
        clear HT
        go_wp2
        go_ret
        have hj' : (cntB n s).toNat = j := by omega
        unfold blocksR NewRanges
        rw [hj']
        exact ⟨_, rfl, by rw [blTo_length]; exact HO.out, hB⟩
  · have H := Lib.hid (blocksR_out n s (by omega))
    have h' : n < 1 ∨ ¬ n < 1 ∧ s < 1 := by omega
    clear h
    rcases h' with h | h
    all_goals
      go_enter Try.func26, Try.ntmps26
      go_wp2
      go_ret
      rw [H.out]
      exact ⟨_, rfl, World.ownsRow_nil _ _ _ _, Below.refl _ _⟩
end Go.Proofs.Ytpghiebedjogpaa
