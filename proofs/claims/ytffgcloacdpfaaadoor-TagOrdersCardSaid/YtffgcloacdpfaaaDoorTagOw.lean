/- Layer 17: comparisons of numbers, for TagOrders. -/
import Derived.Test.YtffgcloacdpfaaaDoorTagZ
namespace Go.Proofs.YtffgcloacdpfaaaDoor
open Go.RowKit
set_option linter.unusedVariables false
theorem isNaNu_any (x : Int) (w : World) : Calls Tryd.prog 35 #[.int .u64 x] w fun e w' => e = .returned (.bool false) ∧ w = w' := by
  go_enter Tryd.func35, Tryd.ntmps35
  go_wp2
  go_ret
  exact ⟨ret_b (by simp), rfl⟩
theorem compareU_any (x y : Int) (w : World) : Calls Tryd.prog 24 #[.int .u64 x, .int .u64 y] w fun e w' => e = .returned (.int .i64 (Lib.compareInt x y)) ∧ Below w.heap.size w w' := by
  by_cases h1 : x < y
  · have H := Lib.hid (show Lib.compareInt x y = -1 by unfold Lib.compareInt; rw [if_pos h1])
    have g1 : decide (x < y) = true := by simpa using h1
    go_enter Tryd.func24, Tryd.ntmps24
    go_wp2_with (go_at_call 35; refine (isNaNu_any _ _).mono ?_; rintro e w' ⟨rfl, rfl⟩)
    go_ret
    exact ⟨by rw [H.out]; rfl, Below.refl _ _⟩
  · have g1 : decide (x < y) = false := by simpa using h1
    by_cases h2 : y < x
    · have H := Lib.hid (show Lib.compareInt x y = 1 by unfold Lib.compareInt; rw [if_neg h1, if_pos h2])
      have g2 : decide (y < x) = true := by simpa using h2
      go_enter Tryd.func24, Tryd.ntmps24
      go_wp2_with (go_at_call 35; refine (isNaNu_any _ _).mono ?_; rintro e w' ⟨rfl, rfl⟩)
      go_ret
      exact ⟨by rw [H.out]; rfl, Below.refl _ _⟩
    · have H := Lib.hid (show Lib.compareInt x y = 0 by unfold Lib.compareInt; rw [if_neg h1, if_neg h2])
      have g2 : decide (y < x) = false := by simpa using h2
      go_enter Tryd.func24, Tryd.ntmps24
      go_wp2_with (go_at_call 35; refine (isNaNu_any _ _).mono ?_; rintro e w' ⟨rfl, rfl⟩)
      go_ret
      exact ⟨by rw [H.out]; rfl, Below.refl _ _⟩
def OrRel (k : Nat) (x y : Int) : Prop := (1 ≤ k → x = 0) ∧ (2 ≤ k → y = 0)
def orL (x y : Int) : Int := if x = 0 then y else x
theorem or_any (x y : Int) (B : Nat) (w : World) (c0 : w.cell? ⟨B, 0, none⟩ = some (.int .i64 x)) (c1 : w.cell? ⟨B, 1, none⟩ = some (.int .i64 y)) : Calls Tryd.prog 23 #[.slice (some ⟨B, 0, none⟩) 2 2] w fun e w' => e = .returned (.int .i64 (orL x y)) ∧ Below w.heap.size w w' := by
  go_enter Tryd.func23, Tryd.ntmps23
  go_wp2_with fail
  go_loopw [5, 8] (fun _ i wr => ∃ k : Nat, k ≤ 2 ∧ i = .int .i64 k ∧ wr = w ∧ OrRel k x y) (fun _ i _ => 2 - (intOf i).toNat)
  case atStart => exact ⟨0, by omega, rfl, rfl, fun h => by omega, fun h => by omega⟩
  case round =>
    obtain ⟨k, hk, rfl, rfl, h1, h2⟩ := hrel
    have hk3 : k = 0 ∨ k = 1 ∨ k = 2 := by omega
    have H1 := Lib.hid h1
    have H2 := Lib.hid h2
    clear h1 h2
    rcases hk3 with rfl | rfl | rfl
    · by_cases hx : x = 0
      · have g : (x != 0) = false := by simp [hx]
        have HX := Lib.hid hx
        clear hx
        go_wp2_with fail
        go_roundw
        case rel => exact ⟨1, by omega, by go_num, by trivial, ⟨fun _ => HX.out, fun h => by omega⟩⟩
        case measure => (simp [intOf] <;> omega)
      · have g : (x != 0) = true := by simpa using hx
        have HX := Lib.hid (show orL x y = x by unfold orL; rw [if_neg hx])
        clear hx
        go_wp2_with fail
        go_ret
        exact ⟨by rw [HX.out]; rfl, Below.refl _ _⟩
    · by_cases hx : y = 0
      · have g : (y != 0) = false := by simp [hx]
        have HX := Lib.hid hx
        clear hx
        go_wp2_with fail
        go_roundw
        case rel => exact ⟨2, by omega, by go_num, by trivial, ⟨fun _ => H1.out (by omega), fun h => HX.out⟩⟩
        case measure => (simp [intOf] <;> omega)
      · have g : (y != 0) = true := by simpa using hx
        have HX := Lib.hid (show orL x y = y by unfold orL; rw [if_pos (H1.out (by omega))])
        clear hx
        go_wp2_with fail
        go_ret
        exact ⟨by rw [HX.out]; rfl, Below.refl _ _⟩
    · have HX := Lib.hid (show orL x y = 0 by unfold orL; rw [if_pos (H1.out (by omega)), H2.out (by omega)])
      go_wp2_with fail
      go_ret
      exact ⟨by rw [HX.out]; rfl, Below.refl _ _⟩
theorem cmp_pack {a b c d e_ p q r s t : Int} (h : RightT a b c d e_) (k : RightT p q r s t) : cmpL (tagXs a b c d e_) (tagXs p q r s t) = orL (Lib.compareInt (packU a b) (packU p q)) (Lib.compareInt (packV c d e_) (packV r s t)) := by
  obtain ⟨h1, h2, h3, h4, h5⟩ := h
  obtain ⟨k1, k2, k3, k4, k5⟩ := k
  have c1 : Lib.compareInt (packU a b) (packU p q) = if a < p then -1 else if p < a then 1 else if b < q then -1 else if q < b then 1 else 0 := by
    unfold Lib.compareInt packU
    repeat' split
    all_goals omega
  have c2 : Lib.compareInt (packV c d e_) (packV r s t) = if c < r then -1 else if r < c then 1 else if d < s then -1 else if s < d then 1 else if e_ < t then -1 else if t < e_ then 1 else 0 := by
    unfold Lib.compareInt packV
    repeat' split
    all_goals omega
  rw [c1, c2]
  unfold tagXs orL
  simp only [cmpL]
  by_cases g1 : a < p
  · simp [g1]
  · by_cases g2 : p < a
    · simp [g1, g2]
    · by_cases g3 : b < q
      · simp [g1, g2, g3]
      · by_cases g4 : q < b
        · simp [g1, g2, g3, g4]
        · simp [g1, g2, g3, g4]
end Go.Proofs.YtffgcloacdpfaaaDoor
