/- Layer 2: the reference's Text, whole. -/
import Derived.Test.YtcnabebcckbfkaaDoorDecQ
namespace Go.Proofs.YtcnabebcckbfkaaDoor
open Go.RowKit
set_option linter.unusedVariables false
theorem fracD_last : ∀ (f k p : Nat), p < 2 ^ k → 2 ^ k ∣ 2 ^ f * p → fracD f k p = [] ∧ p = 0 ∨ ∃ l d, fracD f k p = l ++ [d] ∧ d ≠ 0
  | 0, k, p, hp, h => .inl ⟨rfl, zero_of_dvd h hp⟩
  | f + 1, k, p, hp, h => by
    rw [fracD]
    by_cases h0 : p = 0
    · rw [if_pos h0]; exact .inl ⟨rfl, h0⟩
    · rw [if_neg h0]
      right
      rcases fracD_last f k _ (Nat.mod_lt _ (pow_pos2 k)) (dvd_step h) with ⟨e, hz⟩ | ⟨l, d, e, hd⟩
      · rw [e]
        refine ⟨[], _, rfl, fun h1 => ?_⟩
        have := Nat.div_add_mod (10 * p) (2 ^ k)
        rw [h1, hz] at this
        omega
      · rw [e]
        exact ⟨_ :: l, d, rfl, hd⟩
theorem fracL_last {k p : Nat} (hk : k ≤ 63) (hp : p < 2 ^ k) : fracL k p = [] ∧ p = 0 ∨ ∃ l d, fracL k p = l ++ [d] ∧ d ≠ 0 :=
  fracD_last 64 k p hp (Nat.dvd_trans (Nat.pow_dvd_pow 2 (show k ≤ 64 by omega)) (Nat.dvd_mul_right _ _))
theorem half_next (n i : Nat) (hi : i ≤ 62) : halfD (n / 2 ^ i % 2) (fracL i (n % 2 ^ i)) = fracL (i + 1) (n % 2 ^ (i + 1)) := by
  rw [halfD_fracL hi (Nat.mod_lt _ (pow_pos2 i)) (by omega), Nat.mod_pow_succ, Nat.add_comm (n % 2 ^ i), Nat.mul_comm (n / 2 ^ i % 2)]
theorem bit_eq (a j : Nat) (ha : a ≤ 9223372036854775808) : wrap64 (bits BinOp.and IntKind.u64 ((a : Int) / 2 ^ j) 1) = ((a / 2 ^ j % 2 : Nat) : Int) := by
  have h1 : a / 2 ^ j ≤ a := Nat.div_le_self _ _
  have h := and_mask (a / 2 ^ j) 1 (by omega) (by omega)
  rw [show IntKind.u64.wrap (IntKind.u64.wrap (2 ^ 1) - 1) = 1 by decide] at h
  have e : ((a / 2 ^ j : Nat) : Int) = (a : Int) / 2 ^ j := by rw [Int.natCast_ediv, Int.natCast_pow]; rfl
  rw [← e, h, Nat.pow_one]
  unfold wrap64
  omega
theorem refText_out (x q : Int) (hq : inQ q = false) (w : World) : Calls Tryd.prog 54 #[.int .i64 x, .int .i64 q] w fun e w' => e = .returned (.string ⟨(textB x q).toArray⟩) ∧ Below w.heap.size w w' := by
  have H := Lib.hid (show textB x q = [] by unfold textB; unfold inQ at hq; rw [if_neg (by simpa using hq)])
  have hq' : q < 0 ∨ ¬ q < 0 ∧ 62 < q := by unfold inQ at hq; simp at hq; omega
  clear hq
  rcases hq' with h | ⟨h, h2⟩
  all_goals
    go_enter Tryd.func54, Tryd.ntmps54
    go_wp2_with fail
    go_ret
    exact ⟨by rw [H.out]; rfl, Below.refl _ _⟩
set_option maxHeartbeats 4000000 in
theorem refText_neg (x : Int) (k : Nat) (h0 : -9223372036854775808 ≤ x) (h1 : x ≤ 9223372036854775807) (hk : k ≤ 62) (w : World) (hx : x < 0) : Calls Tryd.prog 54 #[.int .i64 x, .int .i64 k] w fun e w' => e = .returned (.string ⟨(textL x k).toArray⟩) ∧ Below w.heap.size w w' := by
  have HL := Lib.hid (show textL x k = [45] ++ Lib.decDigits (x.natAbs / 2 ^ k) ++ (if x.natAbs % 2 ^ k = 0 then [] else 46 :: (fracL k (x.natAbs % 2 ^ k)).map digB) by unfold textL; rw [if_pos hx])
  have e1 : IntKind.u64.wrap (-IntKind.u64.wrap x) = (x.natAbs : Int) := by rw [IntKind.wrap_u64, IntKind.wrap_u64]; omega
  have ha : x.natAbs ≤ 9223372036854775808 := by omega
  generalize x.natAbs = a at *
  have hk0 : ¬ (k : Int) < 0 := by omega
  have hk2 : ¬ 62 < (k : Int) := by omega
  go_enter Tryd.func54, Tryd.ntmps54
  go_wp2_with fail
  go_loopw [7, 8] (fun d i wr => ∃ (j : Nat), j ≤ k ∧ d = .string ⟨((fracL j (a % 2 ^ j)).map digB).toArray⟩ ∧ i = .int .i64 j ∧ Below w.heap.size w wr) (fun _ i _ => k - (intOf i).toNat)
  case atStart => exact ⟨0, by omega, by rw [Nat.pow_zero, Nat.mod_one]; rfl, rfl, Below.refl _ _⟩
  case round =>
    obtain ⟨j, hj, rfl, rfl, hB⟩ := hrel
    have HB := Lib.hid hB
    clear hB
    by_cases hlt : j < k
    · have hlti : (j : Int) < (k : Int) := by omega
      have hp := Nat.mod_lt a (pow_pos2 j)
      have HN := Lib.hid (half_next a j (by omega))
      have HH := Lib.hid (fun W => half_any (a / 2 ^ j % 2) (by omega) (fracL j (a % 2 ^ j)) (fracL_digit hp) (by have := fracL_length j (a % 2 ^ j); omega) W)
      have EB := Lib.hid (bit_eq a j ha)
      have hsz := HB.out.size
      clear hp
      go_wp2_with fail
      rw [EB.out]
      refine (HH.out _).mono ?_
      rintro e w' ⟨rfl, b'⟩
      rw [HN.out]
      have HB' := Lib.hid (HB.out.trans (b'.mono hsz))
      clear b'
      go_wp2_with fail
      refine ⟨⟨j + 1, by omega, rfl, by simp, HB'.out⟩, ?_⟩
      show k - ((j : Int) + 1).toNat < k - ((j : Int)).toNat
      omega
    · obtain rfl : j = k := by omega
      have hlti : ¬ (j : Int) < (j : Int) := by omega
      have hdl := dec_len (a / 2 ^ j) (by have := Nat.div_le_self a (2 ^ j); omega)
      have HU := Lib.hid (fun W => unsigned_any (a / 2 ^ j) (by have := Nat.div_le_self a (2 ^ j); omega) W)
      have EU := Lib.hid (show (a : Int) / 2 ^ j = ((a / 2 ^ j : Nat) : Int) by rw [Int.natCast_ediv, Int.natCast_pow]; rfl)
      have hlen1 : ¬ 9223372036854775807 < 1 + (Lib.decDigits (a / 2 ^ j)).length := by omega
      have hlen2 : ¬ 9223372036854775807 < 1 + (Lib.decDigits (a / 2 ^ j)).length + 1 := by omega
      rcases fracL_last (k := j) (by omega) (Nat.mod_lt a (pow_pos2 j)) with ⟨hf, hp0⟩ | ⟨l, d, hf, hd0⟩
      · have HP0 := Lib.hid hp0
        rw [hf]
        clear hf hp0
        go_wp2_with fail
        go_loopw [7] (fun dv wr2 => dv = .string ⟨(([] : List Nat).map digB).toArray⟩ ∧ wr2 = wr) (fun _ _ => 0)
        case atStart => exact ⟨rfl, rfl⟩
        case round =>
          obtain ⟨rfl, rfl⟩ := hrel
          go_wp2_with fail
          rw [EU.out]
          refine (HU.out _).mono ?_
          rintro e w' ⟨rfl, rfl⟩
          go_wp2_with fail
          go_ret
          refine ⟨?_, HB.out⟩
          rw [HL.out, if_pos HP0.out]
          simp [bytes_append]
      · have hfd : ∀ y ∈ fracL j (a % 2 ^ j), y < 10 := fracL_digit (Nat.mod_lt a (pow_pos2 j))
        have hd10 : d < 10 := hfd d (by rw [hf]; simp)
        have hp0 : ¬ a % 2 ^ j = 0 := fun h => by rw [h, fracL_zero] at hf; have := congrArg List.length hf; simp at this
        have HP0 := Lib.hid hp0
        have hfl := fracL_length j (a % 2 ^ j)
        generalize hLL : fracL j (a % 2 ^ j) = L at *
        have hlenL : L.length = l.length + 1 := by rw [hf]; simp
        have hidx := fun wx => idx_dig L l.length d (by rw [hf]; simp) hd10 wx
        have hLn : ¬ L = [] := by rw [hf]; simp
        have hd0i : ¬ (d : Int) = 0 := by omega
        have hLe : L.isEmpty = false := by rw [hf]; simp
        have hlen3 : ¬ 9223372036854775807 < 1 + (Lib.decDigits (a / 2 ^ j)).length + 1 + (l.length + 1) := by omega
        clear hf hp0 hfd hLL
        go_wp2_with fail
        go_loopw [7] (fun dv wr2 => dv = .string ⟨(L.map digB).toArray⟩ ∧ wr2 = wr) (fun _ _ => 0)
        case atStart => exact ⟨rfl, rfl⟩
        case round =>
          obtain ⟨rfl, rfl⟩ := hrel
          go_wp2_with fail
          rw [EU.out]
          refine (HU.out _).mono ?_
          rintro e w' ⟨rfl, rfl⟩
          go_wp2_with fail
          go_ret
          refine ⟨?_, HB.out⟩
          rw [HL.out, if_neg HP0.out]
          simp [bytes_append]
set_option maxHeartbeats 4000000 in
theorem refText_pos (x : Int) (k : Nat) (h0 : -9223372036854775808 ≤ x) (h1 : x ≤ 9223372036854775807) (hk : k ≤ 62) (w : World) (hx : ¬ x < 0) : Calls Tryd.prog 54 #[.int .i64 x, .int .i64 k] w fun e w' => e = .returned (.string ⟨(textL x k).toArray⟩) ∧ Below w.heap.size w w' := by
  have HL := Lib.hid (show textL x k = [] ++ Lib.decDigits (x.natAbs / 2 ^ k) ++ (if x.natAbs % 2 ^ k = 0 then [] else 46 :: (fracL k (x.natAbs % 2 ^ k)).map digB) by unfold textL; rw [if_neg hx])
  obtain ⟨a, rfl⟩ := Int.eq_ofNat_of_zero_le (show 0 ≤ x by omega)
  rw [Int.natAbs_natCast] at HL
  have ha : a ≤ 9223372036854775808 := by omega
  have hk0 : ¬ (k : Int) < 0 := by omega
  have hk2 : ¬ 62 < (k : Int) := by omega
  go_enter Tryd.func54, Tryd.ntmps54
  go_wp2_with fail
  go_loopw [7, 8] (fun d i wr => ∃ (j : Nat), j ≤ k ∧ d = .string ⟨((fracL j (a % 2 ^ j)).map digB).toArray⟩ ∧ i = .int .i64 j ∧ Below w.heap.size w wr) (fun _ i _ => k - (intOf i).toNat)
  case atStart => exact ⟨0, by omega, by rw [Nat.pow_zero, Nat.mod_one]; rfl, rfl, Below.refl _ _⟩
  case round =>
    obtain ⟨j, hj, rfl, rfl, hB⟩ := hrel
    have HB := Lib.hid hB
    clear hB
    by_cases hlt : j < k
    · have hlti : (j : Int) < (k : Int) := by omega
      have hp := Nat.mod_lt a (pow_pos2 j)
      have HN := Lib.hid (half_next a j (by omega))
      have HH := Lib.hid (fun W => half_any (a / 2 ^ j % 2) (by omega) (fracL j (a % 2 ^ j)) (fracL_digit hp) (by have := fracL_length j (a % 2 ^ j); omega) W)
      have EB := Lib.hid (bit_eq a j ha)
      have hsz := HB.out.size
      clear hp
      go_wp2_with fail
      rw [EB.out]
      refine (HH.out _).mono ?_
      rintro e w' ⟨rfl, b'⟩
      rw [HN.out]
      have HB' := Lib.hid (HB.out.trans (b'.mono hsz))
      clear b'
      go_wp2_with fail
      refine ⟨⟨j + 1, by omega, rfl, by simp, HB'.out⟩, ?_⟩
      show k - ((j : Int) + 1).toNat < k - ((j : Int)).toNat
      omega
    · obtain rfl : j = k := by omega
      have hlti : ¬ (j : Int) < (j : Int) := by omega
      have hdl := dec_len (a / 2 ^ j) (by have := Nat.div_le_self a (2 ^ j); omega)
      have HU := Lib.hid (fun W => unsigned_any (a / 2 ^ j) (by have := Nat.div_le_self a (2 ^ j); omega) W)
      have EU := Lib.hid (show (a : Int) / 2 ^ j = ((a / 2 ^ j : Nat) : Int) by rw [Int.natCast_ediv, Int.natCast_pow]; rfl)
      have hlen1 : ¬ 9223372036854775807 < (Lib.decDigits (a / 2 ^ j)).length := by omega
      have hlen2 : ¬ 9223372036854775807 < (Lib.decDigits (a / 2 ^ j)).length + 1 := by omega
      rcases fracL_last (k := j) (by omega) (Nat.mod_lt a (pow_pos2 j)) with ⟨hf, hp0⟩ | ⟨l, d, hf, hd0⟩
      · have HP0 := Lib.hid hp0
        rw [hf]
        clear hf hp0
        go_wp2_with fail
        go_loopw [7] (fun dv wr2 => dv = .string ⟨(([] : List Nat).map digB).toArray⟩ ∧ wr2 = wr) (fun _ _ => 0)
        case atStart => exact ⟨rfl, rfl⟩
        case round =>
          obtain ⟨rfl, rfl⟩ := hrel
          go_wp2_with fail
          rw [EU.out]
          refine (HU.out _).mono ?_
          rintro e w' ⟨rfl, rfl⟩
          go_wp2_with fail
          go_ret
          refine ⟨?_, HB.out⟩
          rw [HL.out, if_pos HP0.out]
          simp [bytes_append]
      · have hfd : ∀ y ∈ fracL j (a % 2 ^ j), y < 10 := fracL_digit (Nat.mod_lt a (pow_pos2 j))
        have hd10 : d < 10 := hfd d (by rw [hf]; simp)
        have hp0 : ¬ a % 2 ^ j = 0 := fun h => by rw [h, fracL_zero] at hf; have := congrArg List.length hf; simp at this
        have HP0 := Lib.hid hp0
        have hfl := fracL_length j (a % 2 ^ j)
        generalize hLL : fracL j (a % 2 ^ j) = L at *
        have hlenL : L.length = l.length + 1 := by rw [hf]; simp
        have hidx := fun wx => idx_dig L l.length d (by rw [hf]; simp) hd10 wx
        have hLn : ¬ L = [] := by rw [hf]; simp
        have hd0i : ¬ (d : Int) = 0 := by omega
        have hLe : L.isEmpty = false := by rw [hf]; simp
        have hlen3 : ¬ 9223372036854775807 < (Lib.decDigits (a / 2 ^ j)).length + 1 + (l.length + 1) := by omega
        clear hf hp0 hfd hLL
        go_wp2_with fail
        go_loopw [7] (fun dv wr2 => dv = .string ⟨(L.map digB).toArray⟩ ∧ wr2 = wr) (fun _ _ => 0)
        case atStart => exact ⟨rfl, rfl⟩
        case round =>
          obtain ⟨rfl, rfl⟩ := hrel
          go_wp2_with fail
          rw [EU.out]
          refine (HU.out _).mono ?_
          rintro e w' ⟨rfl, rfl⟩
          go_wp2_with fail
          go_ret
          refine ⟨?_, HB.out⟩
          rw [HL.out, if_neg HP0.out]
          simp [bytes_append]
theorem refText_any (x q : Int) (h0 : -9223372036854775808 ≤ x) (h1 : x ≤ 9223372036854775807) (w : World) : Calls Tryd.prog 54 #[.int .i64 x, .int .i64 q] w fun e w' => e = .returned (.string ⟨(textB x q).toArray⟩) ∧ Below w.heap.size w w' := by
  cases hq : inQ q
  · exact refText_out x q hq w
  · have hq' : 0 ≤ q ∧ q ≤ 62 := by unfold inQ at hq; simpa using hq
    obtain ⟨k, rfl⟩ := Int.eq_ofNat_of_zero_le hq'.1
    have e : textB x (k : Int) = textL x k := by unfold textB; rw [if_pos hq', Int.toNat_natCast]
    rw [e]
    by_cases hx : x < 0
    · exact refText_neg x k h0 h1 (by omega) w hx
    · exact refText_pos x k h0 h1 (by omega) w hx
end Go.Proofs.YtcnabebcckbfkaaDoor
