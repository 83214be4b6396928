/- Layer 16: Of. -/
import Derived.Test.YtplobfiopbncpaaDoorMrkB
import Derived.Test.YtplobfiopbncpaaDoorAppR
namespace Go.Proofs.YtplobfiopbncpaaDoor
open Go.RowKit
set_option linter.unusedVariables false
attribute [local go_sem] run_store_complex
/-- the mark of the first k numbers -/
def accR (xs : List Int) : Nat → Int
  | 0 => 0
  | k + 1 => accR xs k + trnR (lowI (xs[k]?.getD 0)) 0 k
def accI (xs : List Int) : Nat → Int
  | 0 => 0
  | k + 1 => accI xs k + trnI (lowI (xs[k]?.getD 0)) 0 k
theorem trn_low (x : Int) (hx : x.natAbs ≤ 32768) (k : Int) : (trnR x 0 k).natAbs ≤ 32768 ∧ (trnI x 0 k).natAbs ≤ 32768 := by
  unfold trnR trnI
  rw [Int.zero_mul, Int.zero_mul, Int.sub_zero, Int.add_zero, Int.natAbs_mul, Int.natAbs_mul]
  have h1 := Nat.mul_le_mul hx (powR_le k)
  have h2 := Nat.mul_le_mul hx (powI_le k)
  omega
theorem acc_le (xs : List Int) : ∀ k : Nat, (accR xs k).natAbs ≤ 32768 * k ∧ (accI xs k).natAbs ≤ 32768 * k
  | 0 => ⟨by simp [accR], by simp [accI]⟩
  | k + 1 => by
    obtain ⟨h1, h2⟩ := acc_le xs k
    have lo := lowI_le (xs[k]?.getD 0)
    obtain ⟨h3, h4⟩ := trn_low (lowI (xs[k]?.getD 0)) (by omega) k
    unfold accR accI
    omega
theorem IntsW.at' {q : IntKind} {n₀ c n : Nat} {a : Option Addr} {w : World} {zs : List Int} (h : IntsW q n₀ w (.slice a n c) zs) (k : Nat) (hk : k < zs.length) : ∃ b off, a = some ⟨b, off, none⟩ ∧ b < n₀ ∧ w.cell? ⟨b, off + k, none⟩ = some (.int q (zs[k]?.getD 0)) := by
  rcases h with ⟨rfl, _⟩ | h
  · simp at hk
  · rcases h.form with ⟨_, e0⟩ | ⟨b, off, cap, e, hcap, hb, hcs⟩
    · rw [e0] at hk; simp at hk
    · cases e; exact ⟨b, off, rfl, hb, hcs k hk⟩
theorem BoxC.later {E : Nat} {x y : Int} {w w' : World} (h : BoxC E x y w) (hb : Below w.heap.size w w') : BoxC E x y w' := by
  obtain ⟨⟨re, im, c, f⟩, g⟩ := h
  exact ⟨⟨re, im, cell_step hb c, f⟩, frozen_step hb c g⟩
set_option maxHeartbeats 1000000 in
theorem of_any (v : Value) (xs : List Int) (hl : xs.length ≤ 1048576) (w : World) (hv : IntsW .i64 w.heap.size w v xs) :
    Calls Tryd.prog 10 #[v] w fun e w' => (∃ re im, e = .returned (.complex .f64 re im) ∧ IsF re (accR xs xs.length) ∧ IsF im (accI xs xs.length)) ∧ Below w.heap.size w w' := by
  obtain ⟨a, c, rfl⟩ := hv.value
  have HV := Lib.hid hv
  have al := (Below.refl w.heap.size w).alloc (Nat.le_refl _) (.cells #[.complex .f64 0 0] 24)
  have E1 := cell_new w #[.complex .f64 0 0] 24 0
  have fE1 := World.frozen?_alloc_new w #[.complex .f64 0 0] 24 0
  simp only [List.getElem?_toArray, List.getElem?_cons_zero] at E1
  have X1 := Lib.hid (show BoxC w.heap.size (accR xs 0) (accI xs 0) _ from ⟨⟨0, 0, E1, isF0, isF0⟩, fE1⟩)
  have A1 := Lib.hid al
  go_enter Tryd.func10, Tryd.ntmps10
  go_upto_region 3 with fail
  clear al E1 fE1 hv
  generalize w.alloc (.cells #[.complex .f64 0 0] 24) = W1 at *
  generalize hN : w.heap.size = N at *
  go_wp2_with fail
  go_loopw [5, 6, 10] (fun _ _ iv wr => ∃ k : Nat, k ≤ xs.length ∧ iv = .int .i64 k ∧ Hid (BoxC N (accR xs k) (accI xs k) wr) ∧ Hid (Below N w wr)) (fun _ _ iv _ => xs.length - (intOf iv).toNat)
  case atStart => exact ⟨0, Nat.zero_le _, rfl, X1, A1⟩
  case round =>
    clear X1 A1
    obtain ⟨k, hk, rfl, HX, HB⟩ := hrel
    by_cases hlt : k < xs.length
    · obtain ⟨b, off, rfl, hb, hc⟩ := HV.out.at' k hlt
      have c1 := (HB.out.cell (p := ⟨b, off + k, none⟩) hb).trans hc
      have bk := acc_le xs k
      have HAD := Lib.hid (add_any N k (by omega) (xs[k]?.getD 0) (accR xs k) (accI xs k) (by omega) (by omega) wr HX.out)
      rw [show accR xs k + trnR (lowI (xs[k]?.getD 0)) 0 k = accR xs (k + 1) from rfl, show accI xs k + trnI (lowI (xs[k]?.getD 0)) 0 k = accI xs (k + 1) from rfl] at HAD
      have i0 : (0 : Int) ≤ (k : Int) := by omega
      have i1 : (k : Int) < (xs.length : Int) := by omega
      clear bk hb hc
      generalize xs[k]?.getD 0 = x at *
      go_wp2_with fail
      refine HAD.out.mono ?_
      rintro e w5 ⟨rfl, x5, b5⟩
      have X5 := Lib.hid x5
      have B5 := Lib.hid (HB.out.trans b5)
      clear x5 b5 c1 HX HB HAD
      go_wp2_with fail
      go_roundw
      case rel => exact ⟨k + 1, by omega, by go_num, X5, B5⟩
      case measure => simp [intOf]; omega
    · have hke : k = xs.length := by omega
      subst hke
      obtain ⟨⟨re, im, hc, f1, f2⟩, hf⟩ := HX.out
      go_wp2_with fail
      go_ret
      rw [hN]
      exact ⟨⟨re, im, rfl, f1, f2⟩, HB.out⟩
end Go.Proofs.YtplobfiopbncpaaDoor
