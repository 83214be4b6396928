/- The reference's first difference; whether two vectors are the same. -/
import Derived.Test.YtcnabebcckbfkaaDoorVecD
namespace Go.Proofs.YtcnabebcckbfkaaDoor
open Go.RowKit
set_option linter.unusedVariables false
set_option maxHeartbeats 1000000 in
theorem refDiffer_w (v u : Value) (zs ys : List Int) (hm : zs.length ≤ 140737488351232) (hm2 : ys.length ≤ 140737488351232) (w : World) (hv : IntsW .i64 w.heap.size w v zs) (hu : IntsW .i64 w.heap.size w u ys) :
    Calls Tryd.prog 59 #[v, u] w fun e w' => e = .returned (.int .i64 (differ 0 zs ys)) ∧ Below w.heap.size w w' := by
  obtain ⟨av, cv, rfl⟩ := hv.value
  obtain ⟨au, cu, rfl⟩ := hu.value
  have HV := Lib.hid hv
  have HU := Lib.hid hu
  clear hv hu
  go_enter Tryd.func59, Tryd.ntmps59
  go_wp2
  go_loopw [5] (fun i wr => ∃ k : Nat, k ≤ zs.length ∧ k ≤ ys.length ∧ i = .int .i64 k ∧ differ 0 zs ys = differ k (zs.drop k) (ys.drop k) ∧ Below w.heap.size w wr) (fun i _ => zs.length - (intOf i).toNat)
  case atStart => exact ⟨0, Nat.zero_le _, Nat.zero_le _, rfl, rfl, Below.refl _ _⟩
  case round =>
    obtain ⟨k, hk, hk', rfl, hd, hB⟩ := hrel
    have HD := Lib.hid hd
    clear hd
    by_cases h1 : k < zs.length
    · have g1 : decide ((k : Int) < (zs.length : Int)) = true := by simp; omega
      have g2 : decide ((zs.length : Int) ≤ (k : Int)) = false := by simp; omega
      by_cases h2 : k < ys.length
      · have g4 : decide ((ys.length : Int) ≤ (k : Int)) = false := by simp; omega
        rcases HV.out.forms with ⟨_, _, _, e0⟩ | ⟨b, off, c', e0, hcap, hg, hcs⟩
        · rw [e0] at h1; simp at h1
        cases e0
        rcases HU.out.forms with ⟨_, _, _, e0⟩ | ⟨b', off', c', e0, hcap', hg', hcs'⟩
        · rw [e0] at h2; simp at h2
        cases e0
        have c1 := (hB.cell (p := ⟨b, off + k, none⟩) hg).trans (hcs k h1)
        have c2 := (hB.cell (p := ⟨b', off' + k, none⟩) hg').trans (hcs' k h2)
        have i0 : (0 : Int) ≤ (k : Int) := by omega
        have i1 : (k : Int) < (ys.length : Int) := by omega
        have i2 : (k : Int) < (zs.length : Int) := by omega
        have D1 := differ_step zs ys k h1 h2
        have D2 := differ_at zs ys k h1 h2
        generalize zs[k]?.getD 0 = x at *
        generalize ys[k]?.getD 0 = y at *
        clear hcs hcs'
        by_cases hxy : x = y
        · have e1 : (x != y) = false := by simpa using hxy
          have D := Lib.hid (D1 hxy)
          clear D1 D2 hxy
          go_wp2
          go_quiet (fail)
          go_wp2
          go_roundw
          case rel => exact ⟨k + 1, by omega, by omega, by go_num, by rw [HD.out, D.out], below_drewN hB nq⟩
          case measure => simp [intOf]; omega
        · have e1 : (x != y) = true := by simpa using hxy
          have D := Lib.hid (D2 hxy)
          clear D1 D2 hxy
          go_wp2
          go_quiet (fail)
          go_wp2
          go_ret
          exact ⟨ret_i (by rw [HD.out, D.out]), below_drewN hB nq⟩
      · have hy : ys.length = k := by omega
        have g4 : decide ((ys.length : Int) ≤ (k : Int)) = true := by simp; omega
        have i2 : (k : Int) < (zs.length : Int) := by omega
        have D := Lib.hid (differ_left zs ys k h1 hy)
        clear hy
        go_wp2
        go_quiet (fail)
        go_wp2
        go_ret
        exact ⟨ret_i (by rw [HD.out, D.out]), below_drewN hB nq⟩
    · have hz : zs.length = k := by omega
      have g1 : decide ((k : Int) < (zs.length : Int)) = false := by simp; omega
      have g2 : decide ((zs.length : Int) ≤ (k : Int)) = true := by simp; omega
      by_cases h2 : k < ys.length
      · have i4 : (zs.length : Int) ≤ (k : Int) := by omega
        have i5 : zs.length ≤ k := by omega
        have g5 : decide (zs.length ≤ k) = true := by simp; omega
        have g3 : decide ((k : Int) < (ys.length : Int)) = true := by simp; omega
        have D := Lib.hid (differ_right zs ys k h2 hz)
        clear hz
        go_wp2
        go_quiet (fail)
        go_wp2
        go_ret
        exact ⟨ret_i (by rw [HD.out, D.out]), below_drewN hB nq⟩
      · have g3 : decide ((k : Int) < (ys.length : Int)) = false := by simp; omega
        have D := Lib.hid (differ_end zs ys k hz (by omega))
        clear hz
        go_wp2
        go_ret
        exact ⟨ret_i (by rw [HD.out, D.out]), hB⟩
theorem refDiffer_any (v u : Value) (zs ys : List Int) (hm : zs.length ≤ 140737488351232) (hm2 : ys.length ≤ 140737488351232) (w : World) (hv : IntsAt .i64 w.heap.size w v zs) (hu : IntsAt .i64 w.heap.size w u ys) :
    Calls Tryd.prog 59 #[v, u] w fun e w' => e = .returned (.int .i64 (differ 0 zs ys)) ∧ Below w.heap.size w w' := refDiffer_w v u zs ys hm hm2 w (.inr hv) (.inr hu)
end Go.Proofs.YtcnabebcckbfkaaDoor
