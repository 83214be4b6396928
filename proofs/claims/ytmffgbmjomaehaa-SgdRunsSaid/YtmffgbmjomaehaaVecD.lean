/- The first difference of two vectors, and the reference's. -/
import Derived.Test.YtmffgbmjomaehaaVecH
namespace Go.Proofs.Ytmffgbmjomaehaa
open Go.RowKit
set_option linter.unusedVariables false
theorem cut0 (a : Option Addr) (k c s : Nat) : cutv a 0 k c s = .slice a k c := by
  unfold cutv sliced
  cases a with
  | none => split <;> simp
  | some a => split <;> simp [Addr.add]
theorem run_vcut (a : Option Addr) (n c k : Nat) (hk : k ≤ c) (w : World) :
    (Instr.slice 29 (.slice a n c) none (some (.int .i64 (k : Int))) none).run Try.prog w = .ok (.slice a k c) w := by
  have h := run_cut_h (P := Try.prog) (T := 29) (s := 1) (by kernel_rfl) (by intro w; kernel_rfl) a n c .i64 (k : Int) (by omega) (by omega) w
  rw [cut0] at h
  simpa using h
set_option maxHeartbeats 1000000 in
theorem differ_w (v u : Value) (zs ys : List Int) (hm : zs.length ≤ 140737488351232) (hm2 : ys.length ≤ 140737488351232) (n₁ n₂ : Nat) (w : World) (hv : IntsW .i64 n₁ w v zs) (hu : IntsW .i64 n₂ w u ys) :
    Calls Try.prog 40 #[v, u] w fun e w' => e = .returned (.int .i64 (differ 0 zs ys)) ∧ Below w.heap.size w w' := by
  obtain ⟨av, cv, rfl⟩ := hv.value
  obtain ⟨au, cu, rfl⟩ := hu.value
  have hcv : zs.length ≤ cv := by
    rcases hv.forms with ⟨a, c, e, rfl⟩ | ⟨b, off, cap, e, h, _⟩ <;> cases e
    · simp
    · exact h
  obtain ⟨m, hmin⟩ : ∃ m : Nat, m = min zs.length ys.length := ⟨_, rfl⟩
  have hmi : min (zs.length : Int) (ys.length : Int) = m := by omega
  have hc := run_vcut av zs.length cv m (by omega)
  have hm1 : m ≤ zs.length := by omega
  have hm2' : m ≤ ys.length := by omega
  have HM := Lib.hid hmin
  clear hmin
  have HV := Lib.hid hv
  have HU := Lib.hid hu
  clear hv hu
  go_enter Try.func40, Try.ntmps40
  go_wp2
  go_loop [6, 7, 17] (fun _ _ i => ∃ k : Nat, k ≤ m ∧ i = .int .i64 k ∧ differ 0 zs ys = differ k (zs.drop k) (ys.drop k)) (fun _ _ i => m - (intOf i).toNat)
  case atStart => exact ⟨0, Nat.zero_le _, rfl, rfl⟩
  case round =>
    obtain ⟨k, hk, rfl, hd⟩ := hrel
    have HD := Lib.hid hd
    clear hd
    by_cases hlt : k < m
    · rcases HV.out.forms with ⟨_, _, _, e0⟩ | ⟨b, off, c', e0, hcap, hg, hcs⟩
      · rw [e0] at hm1; simp at hm1; omega
      cases e0
      rcases HU.out.forms with ⟨_, _, _, e0⟩ | ⟨b', off', c', e0, hcap', hg', hcs'⟩
      · rw [e0] at hm2'; simp at hm2'; omega
      cases e0
      have c1 := hcs k (by omega)
      have c2 := hcs' k (by omega)
      have hi : (k : Int) < (ys.length : Int) := by omega
      have hi' : (k : Int) < (zs.length : Int) := by omega
      have D1 := differ_step zs ys k (by omega) (by omega)
      have D2 := differ_at zs ys k (by omega) (by omega)
      generalize zs[k]?.getD 0 = x at *
      generalize ys[k]?.getD 0 = y at *
      clear hcs hcs'
      by_cases hxy : x = y
      · have e1 : (x != y) = false := by simpa using hxy
        have D := Lib.hid (D1 hxy)
        clear D1 D2 hxy
        go_wp2
        go_round
        case rel => exact ⟨k + 1, by omega, by go_num, by rw [HD.out, D.out]⟩
        case measure => simp [intOf]; omega
      · have e1 : (x != y) = true := by simpa using hxy
        have D := Lib.hid (D2 hxy)
        clear D1 D2 hxy
        go_wp2
        go_ret
        exact ⟨ret_i (by rw [HD.out, D.out]), Below.refl _ _⟩
    · have hkm : k = m := by omega
      subst hkm
      have hmo := HM.out
      by_cases he : zs.length = ys.length
      · have e1 : ((zs.length : Int) != (ys.length : Int)) = false := by simp [he]
        have D := Lib.hid (differ_end zs ys k (by omega) (by omega))
        clear hmo he
        go_wp2
        go_ret
        exact ⟨ret_i (by rw [HD.out, D.out]), Below.refl _ _⟩
      · have e1 : ((zs.length : Int) != (ys.length : Int)) = true := by simp; omega
        have D : Hid (differ k (zs.drop k) (ys.drop k) = k) := by
          refine Lib.hid ?_
          rcases Nat.lt_or_gt_of_ne he with h | h
          · exact differ_right zs ys k (by omega) (by omega)
          · exact differ_left zs ys k (by omega) (by omega)
        clear hmo he
        go_wp2
        go_ret
        exact ⟨ret_i (by rw [HD.out, D.out]), Below.refl _ _⟩
theorem differ_any (v u : Value) (zs ys : List Int) (hm : zs.length ≤ 140737488351232) (hm2 : ys.length ≤ 140737488351232) (n₁ n₂ : Nat) (w : World) (hv : IntsAt .i64 n₁ w v zs) (hu : IntsAt .i64 n₂ w u ys) :
    Calls Try.prog 40 #[v, u] w fun e w' => e = .returned (.int .i64 (differ 0 zs ys)) ∧ Below w.heap.size w w' := differ_w v u zs ys hm hm2 n₁ n₂ w (.inr hv) (.inr hu)
end Go.Proofs.Ytmffgbmjomaehaa
