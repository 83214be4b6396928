/- Layer 2: the walk of DeciParses. -/
import Derived.Test.YtdpcpfapleehmaaDoorDecG
import Derived.Test.YtdpcpfapleehmaaDoorDecY
namespace Go.Proofs.YtdpcpfapleehmaaDoor
open Go.RowKit
set_option linter.unusedVariables false
theorem bytes_eta (s : ByteArray) : (⟨s.data.toList.toArray⟩ : ByteArray) = s := by
  cases s; simp
theorem refParse_str (s : ByteArray) (q : Int) (w : World) : Calls Tryd.prog 12 #[.string s, .int .i64 q] w fun e w' => (∃ x ok, e = .returned (.tuple #[.int .i64 x, .bool ok]) ∧ ParseIs s q x ok) ∧ Below w.heap.size w w' := by
  have h := refParse_any s.data.toList q w
  rw [bytes_eta] at h
  exact h
theorem list_of_is {l : List UInt8} {s : ByteArray} (h : (⟨l.toArray⟩ : ByteArray) = s) : (l == s.toList) = true := by
  subst h
  rw [ByteArray.toList_eq]
  simp
set_option maxHeartbeats 2000000 in
theorem walk_parses (s : ByteArray) (q : Int) (w : World) (ht : Pow10 w) :
    Calls Tryd.prog 4 #[.string s, .int .i64 q] w fun e w' => e = .returned (.bool true) ∧ Below w.heap.size w w' := by
  have HT := Lib.hid ht
  clear ht
  by_cases hs : 300 < s.size
  · have hsi : 300 < (s.size : Int) := by omega
    go_enter Tryd.func4, Tryd.ntmps4
    go_wp2_with fail
    refine (alive2_any _ HT.out).mono ?_
    rintro e w1 ⟨rfl, b1⟩
    go_wp2_with fail
    go_ret
    exact ⟨rfl, b1⟩
  · have hsi : ¬ 300 < (s.size : Int) := by omega
    have HP := Lib.hid (fun W t => parse_any s q W t)
    have HR := Lib.hid (fun W => refParse_str s q W)
    go_enter Tryd.func4, Tryd.ntmps4
    go_wp2_with fail
    refine (HP.out _ HT.out).mono ?_
    rintro e w1 ⟨⟨x, ok, rfl, p1⟩, b1⟩
    have P1 := Lib.hid p1
    clear p1
    go_wp2_with fail
    refine (HR.out _).mono ?_
    rintro e w2 ⟨⟨y, is, rfl, p2⟩, b2⟩
    obtain ⟨rfl, rfl⟩ := P1.out.uniq p2
    have B2 := Lib.hid (below_step b1 b2)
    clear p2
    go_wp2_with fail
    refine (alive2_any _ (HT.out.later B2.out)).mono ?_
    rintro e w3 ⟨rfl, b3⟩
    have B3 := Lib.hid (below_step B2.out b3)
    rcases P1.out with ⟨rfl, hin, hx, htx⟩ | ⟨rfl, hx0, hn⟩
    · have hq := list_of_is htx
      have HX := Lib.hid (fun W t => text_any x q hx.1 hx.2 W t)
      clear hin hx htx
      go_wp2_with fail
      refine (HX.out _ (HT.out.later B3.out)).mono ?_
      rintro e w4 ⟨rfl, b4⟩
      have B4 := Lib.hid (below_step B3.out b4)
      go_wp2_with fail
      go_ret
      exact ⟨by first | rfl | (simp; done), B4.out⟩
    · subst hx0
      clear hn
      go_wp2_with fail
      go_ret
      exact ⟨by first | rfl | (simp; done), B3.out⟩
end Go.Proofs.YtdpcpfapleehmaaDoor
