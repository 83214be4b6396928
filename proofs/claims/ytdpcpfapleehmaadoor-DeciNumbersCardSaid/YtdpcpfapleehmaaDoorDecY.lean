/- Layer 2: the walk of DeciTexts. -/
import Derived.Test.YtdpcpfapleehmaaDoorDecX
namespace Go.Proofs.YtdpcpfapleehmaaDoor
open Go.RowKit
set_option linter.unusedVariables false
theorem parse_text (x q : Int) (h0 : -9223372036854775808 ≤ x) (h1 : x ≤ 9223372036854775807) (w : World) (ht : Pow10 w) :
    Calls Tryd.prog 10 #[.string ⟨(textB x q).toArray⟩, .int .i64 q] w fun e w' => e = .returned (.tuple #[.int .i64 (if inQ q = true then x else 0), .bool (inQ q)]) ∧ Below w.heap.size w w' := by
  refine (parse_any _ q w ht).mono ?_
  rintro e w' ⟨⟨y, ok, rfl, h⟩, hb⟩
  refine ⟨?_, hb⟩
  have h2 : ParseIs ⟨(textB x q).toArray⟩ q (if inQ q = true then x else 0) (inQ q) := by
    cases hq : inQ q
    · exact .inr ⟨rfl, rfl, fun y _ _ h => by rw [hq] at h; cases h⟩
    · exact .inl ⟨rfl, hq, ⟨h0, h1⟩, rfl⟩
  obtain ⟨rfl, rfl⟩ := h.uniq h2
  rfl
set_option maxHeartbeats 2000000 in
theorem walk_texts (x q : Int) (h0 : -9223372036854775808 ≤ x) (h1 : x ≤ 9223372036854775807) (w : World) (ht : Pow10 w) :
    Calls Tryd.prog 3 #[.int .i64 x, .int .i64 q] w fun e w' => e = .returned (.bool true) ∧ Below w.heap.size w w' := by
  have HT := Lib.hid ht
  have HX := Lib.hid (fun W t => text_any x q h0 h1 W t)
  have HR := Lib.hid (fun W => refText_any x q h0 h1 W)
  have HP := Lib.hid (fun W t => parse_text x q h0 h1 W t)
  clear ht
  cases hq : inQ q
  · rw [hq] at HP
    have hq' : q < 0 ∨ ¬ q < 0 ∧ 62 < q := by unfold inQ at hq; simp at hq; omega
    clear hq
    rcases hq' with h | ⟨h, h2⟩
    all_goals
      go_enter Tryd.func3, Tryd.ntmps3
      go_wp2_with fail
      refine (HX.out _ HT.out).mono ?_
      rintro e w1 ⟨rfl, b1⟩
      go_wp2_with fail
      refine (HR.out _).mono ?_
      rintro e w2 ⟨rfl, b2⟩
      have B2 := Lib.hid (below_step b1 b2)
      go_wp2_with fail
      refine (HP.out _ (HT.out.later B2.out)).mono ?_
      rintro e w3 ⟨rfl, b3⟩
      have B3 := Lib.hid (below_step B2.out b3)
      go_wp2_with fail
      refine (alive2_any _ (HT.out.later B3.out)).mono ?_
      rintro e w4 ⟨rfl, b4⟩
      have B4 := Lib.hid (below_step B3.out b4)
      go_wp2_with fail
      go_ret
      exact ⟨by first | rfl | (simp; done) | (simp; omega), B4.out⟩
  · rw [hq] at HP
    have hq' : 0 ≤ q ∧ q ≤ 62 := by unfold inQ at hq; simpa using hq
    have h : ¬ q < 0 := by omega
    have h2 : ¬ 62 < q := by omega
    clear hq
    go_enter Tryd.func3, Tryd.ntmps3
    go_wp2_with fail
    refine (HX.out _ HT.out).mono ?_
    rintro e w1 ⟨rfl, b1⟩
    go_wp2_with fail
    refine (HR.out _).mono ?_
    rintro e w2 ⟨rfl, b2⟩
    have B2 := Lib.hid (below_step b1 b2)
    go_wp2_with fail
    refine (HP.out _ (HT.out.later B2.out)).mono ?_
    rintro e w3 ⟨rfl, b3⟩
    have B3 := Lib.hid (below_step B2.out b3)
    go_wp2_with fail
    refine (alive2_any _ (HT.out.later B3.out)).mono ?_
    rintro e w4 ⟨rfl, b4⟩
    have B4 := Lib.hid (below_step B3.out b4)
    go_wp2_with fail
    go_ret
    exact ⟨by first | rfl | (simp; done), B4.out⟩
end Go.Proofs.YtdpcpfapleehmaaDoor
