/- Decimal digits of numbers; the reference's Unsigned (as in layer 2's texts, for a seat that has no more of them). -/
import Derived.Test.YtdnaildhcnekfaaDoorShpL
import Derived.Lib.ItoaNum
namespace Go.Proofs.YtdnaildhcnekfaaDoor
open Go.RowKit
set_option linter.unusedVariables false
def digB (d : Nat) : UInt8 := UInt8.ofNat (48 + d)
theorem bytes_append (a b : List UInt8) : (⟨a.toArray⟩ : ByteArray) ++ ⟨b.toArray⟩ = ⟨(a ++ b).toArray⟩ := by
  apply ByteArray.ext
  simp [ByteArray.data_append]
/-- the digits of a number -/
def digsN (n : Nat) : List Nat := if h : n < 10 then [n] else digsN (n / 10) ++ [n % 10]
termination_by n
decreasing_by omega
theorem digsN_small {n : Nat} (h : n < 10) : digsN n = [n] := by rw [digsN, dif_pos h]
theorem digsN_big {n : Nat} (h : ¬ n < 10) : digsN n = digsN (n / 10) ++ [n % 10] := by rw [digsN, dif_neg h]
theorem digsN_lt (n : Nat) : ∀ d ∈ digsN n, d < 10 := by
  induction n using Nat.strongRecOn with
  | ind n ih =>
    by_cases h : n < 10
    · rw [digsN_small h]; intro d hd; simp at hd; omega
    · rw [digsN_big h]
      intro d hd
      rcases List.mem_append.1 hd with hd | hd
      · exact ih (n / 10) (by omega) d hd
      · simp at hd; omega
theorem dec_digs (n : Nat) : Lib.decDigits n = (digsN n).map digB := by
  induction n using Nat.strongRecOn with
  | ind n ih =>
    rw [Lib.decDigits]
    by_cases h : n < 10
    · rw [dif_pos h, digsN_small h]; rfl
    · rw [dif_neg h, digsN_big h, ih (n / 10) (by omega), List.map_append]; rfl
theorem digB_toNat {d : Nat} (h : d < 10) : (digB d).toNat = 48 + d := by
  unfold digB
  rw [UInt8.toNat_ofNat']
  omega
theorem dec_len (d : Nat) (hd : d < 18446744073709551616) : (Lib.decDigits d).length ≤ 20 := by
  rw [Lib.decDigits_length]
  by_cases h : d < 10
  · rw [Lib.nDigits_small h]; omega
  · have := Lib.numDigits_eq d (by omega) hd
    split at this <;> omega
set_option maxHeartbeats 2000000 in
theorem unsigned_any (n : Nat) (hn : n < 18446744073709551616) : ∀ (w : World),
    Calls Tryd.prog 41 #[.int .u64 n] w fun e w' => e = .returned (.string ⟨(Lib.decDigits n).toArray⟩) ∧ w = w' := by
  induction n using Nat.strongRecOn with
  | ind n ih =>
  intro w
  have hs : ∀ (wx : World), (Instr.slice 9 (.string ⟨#[48, 49, 50, 51, 52, 53, 54, 55, 56, 57]⟩) (some (.int .u64 ((n : Int) % 10))) (some (.int .u64 ((n : Int) % 10 + 1))) none).run Tryd.prog wx = .ok (.string ⟨[digB (n % 10)].toArray⟩) wx := by
    intro wx
    rw [run_slice_string (P := Tryd.prog) (w := wx) 9 _ .u64 .u64 ((n : Int) % 10) ((n : Int) % 10 + 1) Tryd.underlying9 (by omega) (by omega) (by show _ ≤ ((10 : Nat) : Int); omega)]
    have e1 : ((n : Int) % 10).toNat = n % 10 := by omega
    have e2 : ((n : Int) % 10 + 1).toNat = n % 10 + 1 := by omega
    rw [e1, e2]
    have hk : ∀ k : Fin 10, (⟨#[48, 49, 50, 51, 52, 53, 54, 55, 56, 57]⟩ : ByteArray).extract k.val (k.val + 1) = ⟨[digB k.val].toArray⟩ := by decide +kernel
    rw [hk ⟨n % 10, by omega⟩]
  by_cases h : n < 10
  · have hd : Lib.decDigits n = [digB (n % 10)] := by rw [dec_digs, digsN_small h, Nat.mod_eq_of_lt h]; rfl
    have H := Lib.hid hd
    have hi : (n : Int) < 10 := by omega
    clear hd
    go_enter Tryd.func41, Tryd.ntmps41
    go_wp2_with fail
    go_ret
    exact ⟨by rw [H.out]; rfl, rfl⟩
  · have hd : Lib.decDigits n = Lib.decDigits (n / 10) ++ [digB (n % 10)] := by rw [dec_digs, digsN_big h, List.map_append, dec_digs]; rfl
    have H := Lib.hid hd
    have HI := Lib.hid (ih (n / 10) (by omega) (by omega))
    have hl := dec_len (n / 10) (by omega)
    have hi : ¬ (n : Int) < 10 := by omega
    have E10 := Lib.hid (show (n : Int) / 10 = ((n / 10 : Nat) : Int) by omega)
    have hlen : ¬ 9223372036854775807 < (Lib.decDigits (n / 10)).length + 1 := by omega
    clear hd ih hl
    go_enter Tryd.func41, Tryd.ntmps41
    go_wp2_with fail
    rw [E10.out]
    refine (HI.out _).mono ?_
    rintro e w' ⟨rfl, rfl⟩
    go_wp2_with fail
    go_ret
    exact ⟨by rw [H.out]; simp [bytes_append], rfl⟩
end Go.Proofs.YtdnaildhcnekfaaDoor
