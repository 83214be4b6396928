/- Layer 16: Decimal, Number, Natural. -/
import Derived.Test.YtplobfiopbncpaaDoorDecX
namespace Go.Proofs.YtplobfiopbncpaaDoor
open Go.RowKit
set_option linter.unusedVariables false
theorem text0 (x : Int) : textL x 0 = (if x < 0 then [45] else []) ++ (digsN x.natAbs).map digB := by
  rw [textL_eq, Nat.pow_zero, Nat.div_one, Nat.mod_one]
  unfold restL
  rw [if_pos rfl, List.append_nil]
theorem decimal_any (x : Int) (h0 : -9223372036854775808 ≤ x) (h1 : x ≤ 9223372036854775807) (w : World) : Calls Tryd.prog 32 #[.int .i64 x] w fun e w' => e = .returned (.string ⟨(textL x 0).toArray⟩) ∧ w = w' := by
  have HL := Lib.hid (text0 x)
  have HU := Lib.hid (fun W => unsigned_any x.natAbs (by omega) W)
  have hdl := dec_len x.natAbs (by omega)
  by_cases hx : x < 0
  · have e1 : IntKind.u64.wrap (-IntKind.u64.wrap x) = (x.natAbs : Int) := by rw [IntKind.wrap_u64, IntKind.wrap_u64]; omega
    have hlen1 : ¬ 9223372036854775807 < 1 + (Lib.decDigits x.natAbs).length := by omega
    have HX := Lib.hid hx
    go_enter Tryd.func32, Tryd.ntmps32
    go_wp2_with fail
    refine (HU.out _).mono ?_
    rintro e w' ⟨rfl, rfl⟩
    go_wp2_with fail
    go_ret
    refine ⟨?_, rfl⟩
    rw [HL.out, if_pos HX.out, ← dec_digs]
    simp [bytes_append]
  · have e1 : IntKind.u64.wrap x = (x.natAbs : Int) := by rw [IntKind.wrap_u64]; omega
    have EX := Lib.hid (show x = (x.natAbs : Int) by omega)
    have HX := Lib.hid hx
    go_enter Tryd.func32, Tryd.ntmps32
    go_wp2_with fail
    first
      | refine (HU.out _).mono ?_
      | (rw [EX.out]; refine (HU.out _).mono ?_)
    rintro e w' ⟨rfl, rfl⟩
    go_wp2_with fail
    go_ret
    refine ⟨?_, rfl⟩
    rw [HL.out, if_neg (by have := HX.out; omega), ← dec_digs]
    simp
theorem number_any (s : ByteArray) (w : World) (ht : Pow10 w) : Calls Tryd.prog 30 #[.string s] w fun e w' => (∃ x ok, e = .returned (.tuple #[.int .i64 x, .bool ok]) ∧ ParseIs s 0 x ok) ∧ Below w.heap.size w w' := by
  have HP := Lib.hid (fun W t => parse_any s 0 W t)
  have HT := Lib.hid ht
  clear ht
  go_enter Tryd.func30, Tryd.ntmps30
  go_wp2_with fail
  refine (HP.out _ HT.out).mono ?_
  rintro e w1 ⟨⟨x, ok, rfl, p1⟩, b1⟩
  go_wp2_with fail
  exact bodyPost_ret (v := .tuple #[.int .i64 x, .bool ok]) (by simp [results, Tryd.results30, go_sem]) rfl ⟨⟨x, ok, rfl, p1⟩, b1⟩
/-- what Natural gives -/
def natR (x : Int) (ok : Bool) (m : Int) : Int × Bool := if ok = true ∧ 0 ≤ x ∧ x ≤ m then (x, true) else (0, false)
theorem natural_any (s : ByteArray) (m : Int) (w : World) (ht : Pow10 w) : Calls Tryd.prog 31 #[.string s, .int .i64 m] w fun e w' => (∃ x ok, e = .returned (.tuple #[.int .i64 (natR x ok m).1, .bool (natR x ok m).2]) ∧ ParseIs s 0 x ok) ∧ Below w.heap.size w w' := by
  have HN := Lib.hid (fun W t => number_any s W t)
  have HT := Lib.hid ht
  clear ht
  go_enter Tryd.func31, Tryd.ntmps31
  go_wp2_with fail
  refine (HN.out _ HT.out).mono ?_
  rintro e w1 ⟨⟨x, ok, rfl, p1⟩, b1⟩
  have P1 := Lib.hid p1
  clear p1
  have hr : natR x ok m = if ok = true ∧ 0 ≤ x ∧ x ≤ m then (x, true) else (0, false) := rfl
  cases ok with
  | false =>
    rw [if_neg (by simp)] at hr
    have HR := Lib.hid hr
    clear hr
    go_wp2_with fail
    exact bodyPost_ret (v := .tuple #[.int .i64 0, .bool false]) (by simp [results, Tryd.results31, go_sem]) rfl ⟨⟨x, false, by rw [HR.out], P1.out⟩, b1⟩
  | true =>
    by_cases hx : x < 0
    · rw [if_neg (by omega)] at hr
      have HR := Lib.hid hr
      clear hr
      go_wp2_with fail
      exact bodyPost_ret (v := .tuple #[.int .i64 0, .bool false]) (by simp [results, Tryd.results31, go_sem]) rfl ⟨⟨x, true, by rw [HR.out], P1.out⟩, b1⟩
    · by_cases hm : m < x
      · rw [if_neg (by omega)] at hr
        have HR := Lib.hid hr
        clear hr
        go_wp2_with fail
        exact bodyPost_ret (v := .tuple #[.int .i64 0, .bool false]) (by simp [results, Tryd.results31, go_sem]) rfl ⟨⟨x, true, by rw [HR.out], P1.out⟩, b1⟩
      · rw [if_pos ⟨rfl, by omega, by omega⟩] at hr
        have HR := Lib.hid hr
        clear hr
        go_wp2_with fail
        exact bodyPost_ret (v := .tuple #[.int .i64 x, .bool true]) (by simp [results, Tryd.results31, go_sem]) rfl ⟨⟨x, true, by rw [HR.out], P1.out⟩, b1⟩
end Go.Proofs.YtplobfiopbncpaaDoor
