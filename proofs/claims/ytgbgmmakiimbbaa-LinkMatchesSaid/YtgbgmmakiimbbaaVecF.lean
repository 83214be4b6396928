/- Whether two vectors are the same; whether vectors are few; copies; adding in place. -/
import Derived.Test.YtgbgmmakiimbbaaVecE
import Derived.LoopN
import Derived.OwnWalk
namespace Go.Proofs.Ytgbgmmakiimbbaa
open Go.RowKit
set_option linter.unusedVariables false
theorem refSame_w (v u : Value) (zs ys : List Int) (hm : zs.length ≤ 140737488351232) (hm2 : ys.length ≤ 140737488351232) (w : World) (hv : IntsW .i64 w.heap.size w v zs) (hu : IntsW .i64 w.heap.size w u ys) :
    Calls Try.prog 20 #[v, u] w fun e w' => e = .returned (.bool (sameL zs ys)) ∧ Below w.heap.size w w' := by
  have HD := Lib.hid (refDiffer_w v u zs ys hm hm2 w hv hu)
  obtain ⟨av, cv, rfl⟩ := hv.value
  obtain ⟨au, cu, rfl⟩ := hu.value
  clear hv hu
  go_enter Try.func20, Try.ntmps20
  go_wp2_with fail
  refine HD.out.mono ?_
  rintro e w' ⟨rfl, hb⟩
  have HS : Hid (sameL zs ys = decide (differ 0 zs ys < 0)) := Lib.hid rfl
  generalize differ 0 zs ys = d at *
  go_wp2_with fail
  go_ret
  exact ⟨ret_b (by rw [HS.out]), hb⟩
theorem refSame_any (v u : Value) (zs ys : List Int) (hm : zs.length ≤ 140737488351232) (hm2 : ys.length ≤ 140737488351232) (w : World) (hv : IntsAt .i64 w.heap.size w v zs) (hu : IntsAt .i64 w.heap.size w u ys) :
    Calls Try.prog 20 #[v, u] w fun e w' => e = .returned (.bool (sameL zs ys)) ∧ Below w.heap.size w w' := refSame_w v u zs ys hm hm2 w (.inr hv) (.inr hu)
set_option maxHeartbeats 1000000 in
theorem few_any (v : Value) (zss : List (List Int)) (hl : zss.length ≤ maxLen) (hm : ∀ zs ∈ zss, zs.length ≤ maxLen) (n₀ : Nat) (w : World) (hv : RowsAt .i64 n₀ w v zss) :
    Calls Try.prog 18 #[v] w fun e w' => e = .returned (.bool (fewB zss)) ∧ w = w' := by
  unfold maxLen at hl hm
  obtain ⟨av, cv, rfl⟩ := hv.value
  have HV := Lib.hid hv
  have HM := Lib.hid hm
  clear hv hm
  go_enter Try.func18, Try.ntmps18
  go_wp2
  go_loop [3, 4] (fun n i => ∃ k : Nat, k ≤ zss.length ∧ k ≤ 100 ∧ i = .int .i64 k ∧ n = .int .i64 (lens (zss.take k))) (fun _ i => zss.length - (intOf i).toNat)
  case atStart => exact ⟨0, Nat.zero_le _, by omega, rfl, rfl⟩
  case round =>
    obtain ⟨k, hk, hk', rfl, rfl⟩ := hrel
    have hle := lens_le (zss.take k)
    rw [List.length_take] at hle
    by_cases h1 : k < zss.length ∧ k < 100
    · obtain ⟨h1, h2⟩ := h1
      rcases HV.out.form with ⟨_, e0⟩ | ⟨b, off, c', e0, hcap, hg, hcs⟩
      · rw [e0] at h1; simp at h1
      cases e0
      obtain ⟨a, c, hc, _⟩ := hcs k h1
      have hlen := HM.out (zss[k]?.getD []) (by rw [List.getElem?_eq_getElem h1]; exact List.getElem_mem h1)
      have HT := Lib.hid (lens_take zss k h1)
      clear hcs
      generalize (zss[k]?.getD []).length = m at *
      generalize lens (zss.take k) = n at *
      have i0 : (0 : Int) ≤ (n : Int) := by omega
      have i1 : (n : Int) ≤ 200000 := by omega
      have g1 : decide ((k : Int) < (zss.length : Int)) = true := by simp; omega
      have g2 : decide ((k : Int) < 100) = true := by simp; omega
      have i2 : (k : Int) < (zss.length : Int) := by omega
      by_cases hm2 : m ≤ 2000
      · have e1 : min (m : Int) 2000 = m := by omega
        have e2 := Lib.hid (show min m 2000 = m by omega)
        go_wp2
        go_round
        case rel => exact ⟨k + 1, by omega, by omega, by go_num, by rw [HT.out, e2.out]; go_num⟩
        case measure => simp [intOf]; omega
      · have e1 : min (m : Int) 2000 = 2000 := by omega
        have e2 := Lib.hid (show min m 2000 = 2000 by omega)
        go_wp2
        go_round
        case rel => exact ⟨k + 1, by omega, by omega, by go_num, by rw [HT.out, e2.out]; go_num⟩
        case measure => simp [intOf]; omega
    · have HF1 : Hid (zss.length ≤ 60 → fewB zss = decide ((lens (zss.take k) : Int) ≤ 1500)) := by
        refine Lib.hid (fun hz => ?_)
        unfold fewB
        rw [List.take_of_length_le (by omega), List.take_of_length_le (by omega), decide_eq_true hz, Bool.true_and, decide_eq_decide]
        omega
      have HF2 : Hid (60 < zss.length → fewB zss = false) := Lib.hid (fun hz => by unfold fewB; rw [decide_eq_false (by omega), Bool.false_and])
      have hx : k = zss.length ∨ (k < zss.length ∧ k = 100) := by omega
      clear h1
      generalize lens (zss.take k) = n at *
      rcases hx with rfl | ⟨h1, rfl⟩
      · by_cases hz : zss.length ≤ 60
        · have g1 : (zss.length : Int) ≤ 60 := by omega
          have HF := Lib.hid (HF1.out hz)
          clear hz HF1 HF2
          go_wp2
          go_ret
          exact ⟨ret_b HF.out.symm, rfl⟩
        · have g1 : ¬ (zss.length : Int) ≤ 60 := by omega
          have HF := Lib.hid (HF2.out (by omega))
          clear hz HF1 HF2
          go_wp2
          go_ret
          exact ⟨ret_b HF.out.symm, rfl⟩
      · have g1 : ¬ (zss.length : Int) ≤ 60 := by omega
        have HF := Lib.hid (HF2.out (by omega))
        clear HF1 HF2
        go_wp2
        go_ret
        exact ⟨ret_b HF.out.symm, rfl⟩
end Go.Proofs.Ytgbgmmakiimbbaa
