/- Layer 2: the walk of DeciNumbers. -/
import Derived.Test.YtdpcpfapleehmaaDoorDecJ
namespace Go.Proofs.YtdpcpfapleehmaaDoor
open Go.RowKit
set_option linter.unusedVariables false
set_option maxHeartbeats 4000000 in
theorem walk_numbers (s : ByteArray) (m : Int) (w : World) (ht : Pow10 w) :
    Calls Tryd.prog 7 #[.string s, .int .i64 m] w fun e w' => e = .returned (.bool true) ∧ Below w.heap.size w w' := by
  have HT := Lib.hid ht
  clear ht
  by_cases hs : 300 < s.size
  · have hsi : 300 < (s.size : Int) := by omega
    go_enter Tryd.func7, Tryd.ntmps7
    go_wp2_with fail
    refine (alive2_any _ HT.out).mono ?_
    rintro e w1 ⟨rfl, b1⟩
    go_wp2_with fail
    go_ret
    exact ⟨rfl, b1⟩
  · have hsi : ¬ 300 < (s.size : Int) := by omega
    have HP := Lib.hid (fun W t => number_any s W t)
    have HR := Lib.hid (fun W => refNumber_any s (by omega) W)
    have HN := Lib.hid (fun W t => natural_any s m W t)
    go_enter Tryd.func7, Tryd.ntmps7
    go_wp2_with fail
    refine (HP.out _ HT.out).mono ?_
    rintro e w1 ⟨⟨x, ok, rfl, p1⟩, b1⟩
    have P1 := Lib.hid p1
    clear p1
    go_wp2_with fail
    refine (HR.out _).mono ?_
    rintro e w2 ⟨⟨y, is, rfl, p2⟩, rfl⟩
    obtain ⟨rfl, rfl⟩ := P1.out.uniq p2
    have B1 := Lib.hid b1
    clear p2 b1
    go_wp2_with fail
    refine (HN.out _ (HT.out.later B1.out)).mono ?_
    rintro e w3 ⟨⟨z, iz, rfl, p3⟩, b3⟩
    obtain ⟨rfl, rfl⟩ := P1.out.uniq p3
    have B3 := Lib.hid (below_step B1.out b3)
    have hn : natR x ok m = if ok = true ∧ 0 ≤ x ∧ x ≤ m then (x, true) else (0, false) := rfl
    clear p3 b3 P1
    cases ok with
    | false =>
      rw [if_neg (by simp)] at hn
      rw [hn]
      clear hn
      go_wp2_with fail
      refine (alive2_any _ (HT.out.later B3.out)).mono ?_
      rintro e w4 ⟨rfl, b4⟩
      have B4 := Lib.hid (below_step B3.out b4)
      go_wp2_with fail
      go_ret
      exact ⟨by first | rfl | (simp; done), B4.out⟩
    | true =>
      by_cases hx : x < 0
      · rw [if_neg (by omega)] at hn
        rw [hn]
        clear hn
        have hx2 : ¬ 0 ≤ x := by omega
        go_wp2_with fail
        refine (alive2_any _ (HT.out.later B3.out)).mono ?_
        rintro e w4 ⟨rfl, b4⟩
        have B4 := Lib.hid (below_step B3.out b4)
        go_wp2_with fail
        go_ret
        exact ⟨by first | rfl | (simp; done) | (simp; omega), B4.out⟩
      · have hx2 : 0 ≤ x := by omega
        by_cases hm : m < x
        · rw [if_neg (by omega)] at hn
          rw [hn]
          clear hn
          have hm2 : ¬ x ≤ m := by omega
          go_wp2_with fail
          refine (alive2_any _ (HT.out.later B3.out)).mono ?_
          rintro e w4 ⟨rfl, b4⟩
          have B4 := Lib.hid (below_step B3.out b4)
          go_wp2_with fail
          go_ret
          exact ⟨by first | rfl | (simp; done) | (simp; omega), B4.out⟩
        · rw [if_pos ⟨rfl, by omega, by omega⟩] at hn
          rw [hn]
          clear hn
          have hm2 : x ≤ m := by omega
          go_wp2_with fail
          refine (alive2_any _ (HT.out.later B3.out)).mono ?_
          rintro e w4 ⟨rfl, b4⟩
          have B4 := Lib.hid (below_step B3.out b4)
          go_wp2_with fail
          go_ret
          exact ⟨by first | rfl | (simp; done) | (simp; omega), B4.out⟩
end Go.Proofs.YtdpcpfapleehmaaDoor
