/- The walks of the laws of layer 4: each returns true, whatever its arguments are. -/
import Derived.Test.YtpdeckmplkmieaaPartD
namespace Go.Proofs.Ytpdeckmplkmieaa
open Go.RowKit
theorem RangesAt.new {e : TypeId} {rs : List (Int × Int)} {w w' : World} {v : Value} (h : w'.ownsRow w.heap.size e 2 v rs.length (rcells rs)) : RangesAt w'.heap.size w' v rs := RangesAt.of_owns rfl h
theorem even52 : evenR 5 2 = [(0, 3), (3, 5)] := by decide
theorem alive_any (w : World) :
    Calls Try.prog 8 #[] w fun e w' => e = .returned (.bool true) ∧ Below w.heap.size w w' := by
  have E := even_any 5 2 (by omega) (by omega) (by omega) (by omega) w
  rw [even52] at E
  have C := fun W => count_any 5 2 (by omega) (by omega) (by omega) (by omega) W
  rw [show cntB 5 2 = 3 by decide] at C
  go_enter Try.func8, Try.ntmps8
  go_wp2_with fail
  refine E.mono ?_
  rintro e w1 ⟨v, rfl, ho, h1⟩
  have HV := Lib.hid (RangesAt.new ho)
  clear ho
  go_wp2_with fail
  have F := SliceAt.fresh (w := w1) (e := 39) (n := 2) (size := 2) (cs := #[.int .i64 0, .int .i64 3, .int .i64 3, .int .i64 5]) (xs := rcells [(0, 3), (3, 5)]) rfl rfl
  refine (eqPart_same _ _ [(0, 3), (3, 5)] (by simp) _ (HV.out.later ((Below.refl _ _).alloc (Nat.le_refl _) _)) F).mono ?_
  rintro e w2 ⟨rfl, h2⟩
  go_wp2_with (go_at_call 17; refine (C _).mono ?_; rintro e w3 ⟨rfl, rfl⟩)
  go_ret
  exact ⟨rfl, h1.trans (((Below.refl _ _).alloc h1.size _).trans (h2.mono (by rw [World.size_alloc]; exact Nat.le_succ_of_le h1.size)))⟩
set_option maxHeartbeats 1000000 in
theorem walk_evens (n k : Int) (hn : -9223372036854775808 ≤ n ∧ n ≤ 9223372036854775807) (hk : -9223372036854775808 ≤ k ∧ k ≤ 9223372036854775807) (w : World) :
    Calls Try.prog 3 #[.int .i64 n, .int .i64 k] w fun e w' => e = .returned (.bool true) ∧ Below w.heap.size w w' := by
  by_cases hs : 3000 < n ∨ 3000 < k
  · have hs' : 3000 < n ∨ ¬ 3000 < n ∧ 3000 < k := by omega
    clear hs
    rcases hs' with h | h
    all_goals
      go_enter Try.func3, Try.ntmps3
      go_wp2_with fail
      refine (alive_any _).mono ?_
      rintro e w5 ⟨rfl, h5⟩
      go_wp2
      go_ret
      exact ⟨rfl, h5⟩
  · have n3 : n ≤ 3000 := by omega
    have k3 : k ≤ 3000 := by omega
    clear hs
    have hlen : (evenR n k).length ≤ 3000 := by
      by_cases h : 0 ≤ n ∧ 0 < k
      · rw [evenR_length n k h.1 h.2]; omega
      · rw [evenR_out n k (by omega)]; simp
    have E1 := fun W => even_any n k (by omega) (by omega) hn.1 hk.1 W
    have E2 := fun W => refEven_any n k (by omega) (by omega) hn.1 hk.1 W
    have CH := Lib.hid (chain_even n k)
    generalize evenR n k = rs at *
    go_enter Try.func3, Try.ntmps3
    go_wp2_with fail
    refine (E1 _).mono ?_
    rintro e w1 ⟨v, rfl, ho1, h1⟩
    have V1 := Lib.hid (RangesAt.new ho1)
    clear ho1
    go_wp2_with fail
    refine (alive_any _).mono ?_
    rintro e w2 ⟨rfl, h2⟩
    have V2 := Lib.hid (V1.out.later h2)
    go_wp2_with fail
    refine (back_any v rs (by omega) _ V2.out).mono ?_
    rintro e w3 ⟨u, rfl, ho3, h3⟩
    have V3 := Lib.hid (V2.out.later h3)
    have U3 := Lib.hid (RangesAt.new ho3)
    clear ho3
    go_wp2_with fail
    refine (E2 _).mono ?_
    rintro e w4 ⟨x, rfl, ho4, h4⟩
    have V4 := Lib.hid (V3.out.later h4)
    have U4 := Lib.hid (U3.out.later h4)
    have X4 := Lib.hid (RangesAt.new ho4)
    clear ho4
    go_wp2_with fail
    refine (eqRef_same u x rs (by omega) _ U4.out X4.out).mono ?_
    rintro e w5 ⟨rfl, h5⟩
    have V5 := Lib.hid (V4.out.later h5)
    have b12 := h1.trans (h2.mono h1.size)
    have b13 := b12.trans (h3.mono b12.size)
    have b14 := b13.trans (h4.mono b13.size)
    have b15 := b14.trans (h5.mono b14.size)
    clear b12 b13 b14
    by_cases hh : n < 0 ∨ k < 1
    · have hh' : n < 0 ∨ ¬ n < 0 ∧ k < 1 := by omega
      clear hh
      rcases hh' with h | h
      all_goals
        go_wp2
        go_ret
        exact ⟨rfl, b15⟩
    · have g1 : 0 ≤ n := by omega
      have g2 : 1 ≤ k := by omega
      clear hh
      have C1 := fun W hW => covers_any n v rs (by omega) W hW
      rw [CH.out g1 (by omega)] at C1
      go_wp2_with fail
      refine (C1 _ V5.out).mono ?_
      rintro e w6 ⟨rfl, h6⟩
      have V6 := Lib.hid (V5.out.later h6)
      go_wp2_with fail
      refine (back_any v rs (by omega) _ V6.out).mono ?_
      rintro e w7 ⟨y, rfl, ho7, h7⟩
      have Y7 := Lib.hid (RangesAt.new ho7)
      clear ho7
      have C2 := fun W hW => refCovers_any n y rs (by omega) W hW
      rw [CH.out g1 (by omega)] at C2
      go_wp2_with fail
      refine (C2 _ Y7.out).mono ?_
      rintro e w8 ⟨rfl, rfl⟩
      go_wp2
      go_ret
      have b16 := b15.trans (h6.mono b15.size)
      exact ⟨rfl, b16.trans (h7.mono b16.size)⟩
set_option maxHeartbeats 1000000 in
theorem walk_blocks (n s : Int) (hn : -9223372036854775808 ≤ n ∧ n ≤ 9223372036854775807) (hs : -9223372036854775808 ≤ s ∧ s ≤ 9223372036854775807) (w : World) :
    Calls Try.prog 4 #[.int .i64 n, .int .i64 s] w fun e w' => e = .returned (.bool true) ∧ Below w.heap.size w w' := by
  by_cases h3 : 3000 < n
  · go_enter Try.func4, Try.ntmps4
    go_wp2_with fail
    refine (alive_any _).mono ?_
    rintro e w5 ⟨rfl, h5⟩
    go_wp2
    go_ret
    exact ⟨rfl, h5⟩
  · have n3 : n ≤ 3000 := by omega
    clear h3
    have hlen := blocksR_length n s
    have hcr := cntB_range n s
    have E1 := fun W => blocks_any n s hn.1 (by omega) hs.1 hs.2 W
    have E2 := fun W => refBlocks_any n s hn.1 (by omega) hs.1 hs.2 W
    have E3 := fun W => count_any n s hn.1 hn.2 hs.1 hs.2 W
    rw [← hlen] at E3 hcr
    have CH : Hid ((blocksR n s).length ≠ 0 → Chain 0 (blocksR n s) n = true) := Lib.hid (by
      intro hz
      refine chain_blocks n s ?_ ?_
      · apply Classical.byContradiction; intro h; rw [blocksR_out n s (by omega)] at hz; exact hz rfl
      · apply Classical.byContradiction; intro h; rw [blocksR_out n s (by omega)] at hz; exact hz rfl)
    clear hlen
    generalize blocksR n s = rs at *
    go_enter Try.func4, Try.ntmps4
    go_wp2_with fail
    refine (E1 _).mono ?_
    rintro e w1 ⟨v, rfl, ho1, h1⟩
    have V1 := Lib.hid (RangesAt.new ho1)
    clear ho1
    go_wp2_with fail
    refine (E2 _).mono ?_
    rintro e w2 ⟨x, rfl, ho2, h2⟩
    have V2 := Lib.hid (V1.out.later h2)
    have X2 := Lib.hid (RangesAt.new ho2)
    clear ho2
    obtain ⟨xa, xc, rfl⟩ : ∃ a c, x = .slice a rs.length c := by
      rcases X2.out.form with ⟨rfl, rfl⟩ | ⟨b, off, cap, rfl, _⟩ <;> exact ⟨_, _, rfl⟩
    go_wp2_with fail
    refine (alive_any _).mono ?_
    rintro e w3 ⟨rfl, h3⟩
    have V3 := Lib.hid (V2.out.later h3)
    have X3 := Lib.hid (X2.out.later h3)
    go_wp2_with fail
    refine (back_any v rs (by omega) _ V3.out).mono ?_
    rintro e w4 ⟨u, rfl, ho4, h4⟩
    have V4 := Lib.hid (V3.out.later h4)
    have X4 := Lib.hid (X3.out.later h4)
    have U4 := Lib.hid (RangesAt.new ho4)
    clear ho4
    go_wp2_with fail
    refine (eqRef_same u _ rs (by omega) _ U4.out X4.out).mono ?_
    rintro e w5 ⟨rfl, h5⟩
    have V5 := Lib.hid (V4.out.later h5)
    go_wp2_with fail
    refine (E3 _).mono ?_
    rintro e w6 ⟨rfl, rfl⟩
    have b12 := h1.trans (h2.mono h1.size)
    have b13 := b12.trans (h3.mono b12.size)
    have b14 := b13.trans (h4.mono b13.size)
    have b15 := b14.trans (h5.mono b14.size)
    clear b12 b13 b14
    by_cases hz : rs.length = 0
    · have hz' : ((rs.length : Int) == 0) = true := by simp [hz]
      have HZ := Lib.hid hz
      clear hz
      go_wp2
      go_ret
      exact ⟨rfl, b15⟩
    · have hz' : ((rs.length : Int) == 0) = false := by simp [hz]
      have C1 := fun W hW => covers_any n v rs (by omega) W hW
      rw [CH.out hz] at C1
      have HZ := Lib.hid hz
      clear hz
      go_wp2_with fail
      refine (C1 _ V5.out).mono ?_
      rintro e w7 ⟨rfl, h7⟩
      go_wp2
      go_ret
      exact ⟨ret_b (by simp), b15.trans (h7.mono b15.size)⟩
end Go.Proofs.Ytpdeckmplkmieaa
