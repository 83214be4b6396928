/- What the other functions of package part, of its reference and of its laws' helpers return. -/
import Derived.Test.YtmffgbmjomaehaaPartR
namespace Go.Proofs.Ytmffgbmjomaehaa
open Go.RowKit



set_option maxHeartbeats 1000000 in
theorem refBlocks_any (n s : Int) (hn : -9223372036854775808 ≤ n) (hn1 : n ≤ 1048576) (hs : -9223372036854775808 ≤ s) (hs1 : s ≤ 9223372036854775807) (w : World) :
    Calls Try.prog 20 #[.int .i64 n, .int .i64 s] w (NewRanges 43 (blocksR n s) w) := by
  by_cases h : 1 ≤ n ∧ 1 ≤ s
  · obtain ⟨h1, h2⟩ := h
    go_enter Try.func20, Try.ntmps20
    go_wp2
    go_loopw [5, 6, 7] (fun v lo _ wr => ∃ j : Nat, (j : Int) ≤ cntB n s ∧ lo = .int .i64 (bl n s j) ∧ wr.ownsRow w.heap.size 43 2 v j (rcells (blTo n s j)) ∧ Below w.heap.size w wr) (fun _ lo _ _ => (n - intOf lo).toNat)
    case atStart => exact ⟨0, (cntB_range n s).1, by rw [bl_zero n s (by omega)], World.ownsRow_nil _ _ _ _, Below.refl _ _⟩
    case round =>
      obtain ⟨j, hj, rfl, hown, hB⟩ := hrel
      have hcr := cntB_range n s
      by_cases hlt : j * s < n
      · have HT := bl_lt n s j hlt
        have hj1 := (cntB_lt n s j h1 h2).2 hlt
        have hp0 : 0 ≤ (j : Int) * s := Int.mul_nonneg (by omega) (by omega)
        have HS := bl_succ n s j
        have HE := Lib.hid (blTo_succ n s j)
        have HO := Lib.hid hown
        clear hown
        rw [HT]
        have HT' := Lib.hid HT
        clear HT
        generalize (j : Int) * s = lo at *
        by_cases hg : s < n - lo
        · have HS' := Lib.hid (show bl n s (j + 1) = lo + s by rw [HS]; omega)
          clear HS
          go_wp2_with (at_builtin; refine append_one elemRR rfl _ _ rfl rfl rfl HO.out rfl ?_ ?_ ?_ ?_ ?_; (simp [Value.oneCell']); (unfold maxLen; omega); omega; (exact hB.size); intro v' w' ho' hg'; have hg2 := Lib.hid (show wr.grownBy w' u5.ownBlock from hg'); clear hg'; have HO' := Lib.hid ho'; clear ho')
          go_roundw
          case rel => exact ⟨j + 1, by omega, by rw [HS'.out], by rw [HE.out, rcells_snoc, HT'.out, HS'.out]; exact HO'.out, below_appended hB HO.out hg2.out (Nat.le_refl _) hB.size⟩
          case measure => simp [intOf]; omega
        · have HS' := Lib.hid (show bl n s (j + 1) = n by rw [HS]; omega)
          clear HS
          go_wp2_with (at_builtin; refine append_one elemRR rfl _ _ rfl rfl rfl HO.out rfl ?_ ?_ ?_ ?_ ?_; (simp [Value.oneCell']); (unfold maxLen; omega); omega; (exact hB.size); intro v' w' ho' hg'; have hg2 := Lib.hid (show wr.grownBy w' u5.ownBlock from hg'); clear hg'; have HO' := Lib.hid ho'; clear ho')
          go_roundw
          case rel => exact ⟨j + 1, by omega, by rw [HS'.out], by rw [HE.out, rcells_snoc, HT'.out, HS'.out]; exact HO'.out, below_appended hB HO.out hg2.out (Nat.le_refl _) hB.size⟩
          case measure => simp [intOf]; omega
      · have HT := bl_ge n s j (by omega)
        have hc : cntB n s ≤ j := by
          have := cntB_lt n s j h1 h2
          omega
        have HO := Lib.hid hown
        clear hown
        rw [HT]
        clear HT
        go_wp2
        go_ret
        have hj' : (cntB n s).toNat = j := by omega
        unfold blocksR NewRanges
        rw [hj']
        exact ⟨_, rfl, by rw [blTo_length]; exact HO.out, hB⟩
  · have H := Lib.hid (blocksR_out n s (by omega))
    have h' : n < 1 ∨ ¬ n < 1 ∧ s < 1 := by omega
    clear h
    rcases h' with h | h
    all_goals
      go_enter Try.func20, Try.ntmps20
      go_wp2
      go_ret
      rw [H.out]
      exact ⟨_, rfl, World.ownsRow_nil _ _ _ _, Below.refl _ _⟩
end Go.Proofs.Ytmffgbmjomaehaa
