/- Layer 23: the reference's Fair. -/
import Derived.Test.YtancgbggppaceaaBndG
namespace Go.Proofs.Ytancgbggppaceaa
open Go.RowKit Go.Maps
set_option linter.unusedVariables false
theorem cntL_snoc (z x : Int) (l : List Int) : cntL z (l ++ [x]) = cntL z l + if x == z then 1 else 0 := by
  unfold cntL
  rw [List.filter_append, List.length_append]
  cases h : x == z <;> simp [h]
theorem cntL_le (z : Int) (l : List Int) : cntL z l ≤ l.length := List.length_filter_le _ _
def OnceTo (l : List Int) (k : Nat) : Prop := ∀ w, w < k → cntL (w : Int) l = 1
theorem once_yes {l : List Int} {N : Nat} (h : OnceTo l N) : onceB N l = true := List.all_eq_true.2 fun w hw => by simpa using h w (List.mem_range.1 hw)
theorem once_no {l : List Int} {N k : Nat} (hk : k < N) (h : cntL (k : Int) l ≠ 1) : onceB N l = false := by
  rw [Bool.eq_false_iff]
  intro ht
  have := List.all_eq_true.1 ht k (List.mem_range.2 hk)
  exact h (by simpa using this)
theorem OnceTo.succ {l : List Int} {k : Nat} (h : OnceTo l k) (hk : cntL (k : Int) l = 1) : OnceTo l (k + 1) := fun w hw => by
  rcases Nat.lt_succ_iff_lt_or_eq.1 hw with h1 | rfl
  · exact h w h1
  · exact hk
set_option maxHeartbeats 2000000 in
theorem once_any (N : Nat) (hN : N ≤ 64) (v : Value) (l : List Int) (hm : l.length ≤ 1048576) (n₀ : Nat) (w : World) (hv : IntsAt .i64 n₀ w v l) :
    Calls Try.prog 13 #[.int .i64 (N : Int), v] w fun e w' => e = .returned (.bool (onceB N l)) ∧ w = w' := by
  obtain ⟨a, c, rfl⟩ := ints_value hv
  have HV := Lib.hid hv
  clear hv
  go_enter Try.func13, Try.ntmps13
  go_wp2_with fail
  go_loop [5, 6, 7] (fun i _ _ => ∃ k : Nat, k ≤ N ∧ i = .int .i64 k ∧ Hid (OnceTo l k)) (fun i _ _ => N - (intOf i).toNat)
  case atStart => exact ⟨0, Nat.zero_le _, rfl, Lib.hid (fun w hw => absurd hw (Nat.not_lt_zero w))⟩
  case round =>
    obtain ⟨k, hk, rfl, HO⟩ := hrel
    by_cases hlt : k < N
    · go_wp2_with fail
      go_loop [6, 7] (fun n i => ∃ j : Nat, j ≤ l.length ∧ i = .int .i64 j ∧ n = .int .i64 (cntL (k : Int) (l.take j) : Nat)) (fun _ i => l.length - (intOf i).toNat)
      case atStart => exact ⟨0, Nat.zero_le _, rfl, rfl⟩
      case round =>
        obtain ⟨j, hj, rfl, rfl⟩ := hrel
        have hle := cntL_le (k : Int) (l.take j)
        rw [List.length_take, Nat.min_eq_left hj] at hle
        by_cases hjl : j < l.length
        · rcases HV.out.form with ⟨_, e0⟩ | ⟨b, off, cap, e0, hc, hb, hcs⟩
          · rw [e0] at hjl; cases hjl
          cases e0
          have c0 := hcs j hjl
          have hsn : cntL (k : Int) (l.take (j + 1)) = cntL (k : Int) (l.take j) + if (l[j]?.getD 0) == (k : Int) then 1 else 0 := by
            rw [List.take_succ_eq_append_getElem hjl, cntL_snoc, List.getElem?_eq_getElem hjl]; rfl
          generalize l[j]?.getD 0 = x at *
          have HSN := Lib.hid hsn
          clear hcs hsn
          generalize hC : cntL (k : Int) (l.take j) = C at *
          clear hC
          by_cases hx : x = (k : Int)
          · have g : (x == (k : Int)) = true := by simpa using hx
            have HS2 := Lib.hid (show cntL (k : Int) (l.take (j + 1)) = C + 1 by rw [HSN.out, g]; rfl)
            clear hx HSN
            go_wp2_with fail
            go_round
            case rel => exact ⟨j + 1, by omega, by go_num, by rw [HS2.out]; go_num⟩
            case measure => simp [intOf]; omega
          · have g : (x == (k : Int)) = false := by simpa using hx
            have HS2 := Lib.hid (show cntL (k : Int) (l.take (j + 1)) = C by rw [HSN.out, g]; rfl)
            clear hx HSN
            go_wp2_with fail
            go_round
            case rel => exact ⟨j + 1, by omega, by go_num, by rw [HS2.out]⟩
            case measure => simp [intOf]; omega
        · have hj' : j = l.length := by omega
          subst hj'
          rw [List.take_length] at hle ⊢
          have HYES := Lib.hid (fun h => HO.out.succ (l := l) (k := k) h)
          have HNO := Lib.hid (fun h => once_no (l := l) hlt h)
          generalize cntL (k : Int) l = C at *
          by_cases hC : C = 1
          · have g : ((C : Int) != 1) = false := by simp [hC]
            have HY := Lib.hid (HYES.out hC)
            clear hC
            go_wp2_with fail
            go_round
            case rel => exact ⟨k + 1, by omega, by go_num, HY⟩
            case measure => simp [intOf]; omega
          · have g : ((C : Int) != 1) = true := by simp; omega
            have HY := Lib.hid (HNO.out hC)
            clear hC
            go_wp2_with fail
            go_ret
            exact ⟨by rw [HY.out]; rfl, rfl⟩
    · have hk' : k = N := by omega
      subst hk'
      have HY := Lib.hid (once_yes HO.out)
      go_wp2_with fail
      go_ret
      exact ⟨by rw [HY.out]; rfl, rfl⟩
end Go.Proofs.Ytancgbggppaceaa
