/- The hash of a vector, and the reference's. -/
import Derived.Test.YtnojcgikgngniaaVecM
import Derived.Test.YtnojcgikgngniaaVecK
import Derived.Test.YtnojcgikgngniaaGen
namespace Go.Proofs.Ytnojcgikgngniaa
open Go.RowKit
theorem hash_any (v : Value) (zs : List Int) (hm : zs.length ≤ 140737488351232) (w : World) (n₀ : Nat) (hL : IntsAt .i64 n₀ w v zs) :
    Calls Try.prog 26 #[v] w fun e w' => e = .returned (.int .u64 (hashL zs)) ∧ w = w' := by
  rcases hL.form with ⟨rfl, rfl⟩ | ⟨b, off, cap', rfl, hcap, hb, hcs⟩
  · have H := Lib.hid hashL_nil
    go_enter Try.func26, Try.ntmps26
    go_wp2
    go_loop [3, 5, 8] (fun h _ i => h = .int .u64 1 ∧ i = .int .i64 0) (fun _ _ _ => 0)
    case atStart => exact ⟨rfl, rfl⟩
    case round =>
      obtain ⟨rfl, rfl⟩ := hrel
      go_wp2
      go_ret
      exact ⟨ret_u H.out.symm, rfl⟩
  · have H0 := Lib.hid hashL_nil
    go_enter Try.func26, Try.ntmps26
    go_wp2
    go_loop [3, 5, 8] (fun h _ i => ∃ k : Nat, k ≤ zs.length ∧ i = .int .i64 k ∧ h = .int .u64 (hashL (zs.take k))) (fun _ _ i => zs.length - (intOf i).toNat)
    case atStart => exact ⟨0, Nat.zero_le _, rfl, by rw [List.take_zero, H0.out]⟩
    case round =>
      obtain ⟨k, hk, rfl, rfl⟩ := hrel
      by_cases hlt : k < zs.length
      · have hc := hcs k hlt
        have hs := hashL_snoc (zs.take k) (zs[k]?.getD 0)
        rw [show zs.take k ++ [zs[k]?.getD 0] = zs.take (k + 1) by rw [List.take_add_one, List.getElem?_eq_getElem hlt]; rfl] at hs
        have hr := hashL_range (zs.take k)
        have HS := Lib.hid hs
        clear hs hcs
        generalize zs[k]?.getD 0 = x at *
        go_wp2
        go_round
        case rel =>
          refine ⟨k + 1, by omega, by go_num, ?_⟩
          rw [HS.out]
          rfl
        case measure => (simp [intOf] <;> omega)
      · have hk' : k = zs.length := by omega
        subst hk'
        clear hcs
        rw [List.take_length]
        go_wp2
        go_ret
        exact ⟨rfl, rfl⟩
theorem hsumM_nil : hsumM [] = 0 := by decide
theorem hpowM_zero : hpowM 0 = 1 := by decide
theorem refHash_any (v : Value) (zs : List Int) (hm : zs.length ≤ 140737488351232) (w : World) (n₀ : Nat) (hL : IntsAt .i64 n₀ w v zs) :
    Calls Try.prog 27 #[v] w fun e w' => e = .returned (.int .u64 (hashL zs)) ∧ w = w' := by
  rcases hL.form with ⟨rfl, rfl⟩ | ⟨b, off, cap', rfl, hcap, hb, hcs⟩
  · have H := Lib.hid hashL_nil
    go_enter Try.func27, Try.ntmps27
    go_wp2
    go_loop [3, 4, 5] (fun p s i => p = .int .u64 1 ∧ s = .int .u64 0 ∧ i = .int .i64 (-1)) (fun _ _ _ => 0)
    case atStart => exact ⟨rfl, rfl, rfl⟩
    case round =>
      obtain ⟨rfl, rfl, rfl⟩ := hrel
      go_wp2
      go_ret
      exact ⟨ret_u H.out.symm, rfl⟩
  · have H0 := Lib.hid (And.intro hsumM_nil hpowM_zero)
    go_enter Try.func27, Try.ntmps27
    go_wp2
    go_loop [3, 4, 5] (fun p s i => ∃ k : Nat, k ≤ zs.length ∧ i = .int .i64 ((k : Int) - 1) ∧ p = .int .u64 (hpowM (zs.length - k)) ∧ s = .int .u64 (hsumM (zs.drop k))) (fun _ _ i => (intOf i + 1).toNat)
    case atStart => exact ⟨zs.length, Nat.le_refl _, rfl, by rw [Nat.sub_self, H0.out.2], by rw [List.drop_length, H0.out.1]⟩
    case round =>
      obtain ⟨k, hk, rfl, rfl, rfl⟩ := hrel
      rcases Nat.eq_zero_or_pos k with h0 | h0
      · subst h0
        have H := Lib.hid (hashL_parts zs)
        have h1 := hsumM_range zs
        have h2 := hpowM_range zs.length
        clear hcs
        rw [List.drop_zero, Nat.sub_zero]
        go_wp2
        go_ret
        refine ⟨ret_u ?_, rfl⟩
        rw [← H.out]
        rfl
      · obtain ⟨m, rfl⟩ : ∃ m, k = m + 1 := ⟨k - 1, by omega⟩
        have hlt : m < zs.length := by omega
        have hc := hcs m hlt
        have hs := hsumM_cons (zs[m]?.getD 0) (zs.drop (m + 1))
        rw [show (zs[m]?.getD 0 :: zs.drop (m + 1)) = zs.drop m by rw [List.drop_eq_getElem_cons hlt, List.getElem?_eq_getElem hlt]; rfl, List.length_drop, show zs.length - (m + 1) + 1 = zs.length - m by omega] at hs
        have hp := hpowM_succ (zs.length - (m + 1))
        rw [show zs.length - (m + 1) + 1 = zs.length - m by omega] at hp
        have h1 := hsumM_range (zs.drop (m + 1))
        have h2 := hpowM_range (zs.length - (m + 1))
        have HS := Lib.hid (And.intro hs hp)
        clear hs hp hcs
        generalize zs[m]?.getD 0 = x at *
        go_wp2
        go_round
        case rel =>
          refine ⟨m, by omega, by first | rfl | (congr 1; omega), ?_, ?_⟩
          · rw [HS.out.2]; rfl
          · rw [HS.out.1, HS.out.2]; rfl
        case measure => (simp [intOf] <;> omega)
end Go.Proofs.Ytnojcgikgngniaa
