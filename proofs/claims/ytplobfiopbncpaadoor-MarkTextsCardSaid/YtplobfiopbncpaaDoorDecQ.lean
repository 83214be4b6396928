/- Layer 2: the reference's Text. -/
import Derived.Test.YtplobfiopbncpaaDoorDecN
import Derived.Test.YtplobfiopbncpaaDoorDecP
namespace Go.Proofs.YtplobfiopbncpaaDoor
open Go.RowKit
set_option linter.unusedVariables false
set_option maxHeartbeats 2000000 in
theorem unsigned_any (n : Nat) (hn : n < 18446744073709551616) : ∀ (w : World),
    Calls Tryd.prog 45 #[.int .u64 n] w fun e w' => e = .returned (.string ⟨(Lib.decDigits n).toArray⟩) ∧ w = w' := by
  induction n using Nat.strongRecOn with
  | ind n ih =>
  intro w
  have hs : ∀ (wx : World), (Instr.slice 9 (.string ⟨#[48, 49, 50, 51, 52, 53, 54, 55, 56, 57]⟩) (some (.int .u64 ((n : Int) % 10))) (some (.int .u64 ((n : Int) % 10 + 1))) none).run Tryd.prog wx = .ok (.string ⟨[digB (n % 10)].toArray⟩) wx := by
    intro wx
    rw [run_slice_string (P := Tryd.prog) (w := wx) 9 _ .u64 .u64 ((n : Int) % 10) ((n : Int) % 10 + 1) Tryd.underlying9 (by omega) (by omega) (by show _ ≤ ((10 : Nat) : Int); omega)]
    have e1 : ((n : Int) % 10).toNat = n % 10 := by omega
    have e2 : ((n : Int) % 10 + 1).toNat = n % 10 + 1 := by omega
    rw [e1, e2]
    have hk : ∀ k : Fin 10, (⟨#[48, 49, 50, 51, 52, 53, 54, 55, 56, 57]⟩ : ByteArray).extract k.val (k.val + 1) = ⟨[digB k.val].toArray⟩ := by decide +kernel
    rw [hk ⟨n % 10, by omega⟩]
  by_cases h : n < 10
  · have hd : Lib.decDigits n = [digB (n % 10)] := by rw [dec_digs, digsN_small h, Nat.mod_eq_of_lt h]; rfl
    have H := Lib.hid hd
    have hi : (n : Int) < 10 := by omega
    clear hd
    go_enter Tryd.func45, Tryd.ntmps45
    go_wp2_with fail
    go_ret
    exact ⟨by rw [H.out]; rfl, rfl⟩
  · have hd : Lib.decDigits n = Lib.decDigits (n / 10) ++ [digB (n % 10)] := by rw [dec_digs, digsN_big h, List.map_append, dec_digs]; rfl
    have H := Lib.hid hd
    have HI := Lib.hid (ih (n / 10) (by omega) (by omega))
    have hl := dec_len (n / 10) (by omega)
    have hi : ¬ (n : Int) < 10 := by omega
    have E10 := Lib.hid (show (n : Int) / 10 = ((n / 10 : Nat) : Int) by omega)
    have hlen : ¬ 9223372036854775807 < (Lib.decDigits (n / 10)).length + 1 := by omega
    clear hd ih hl
    go_enter Tryd.func45, Tryd.ntmps45
    go_wp2_with fail
    rw [E10.out]
    refine (HI.out _).mono ?_
    rintro e w' ⟨rfl, rfl⟩
    go_wp2_with fail
    go_ret
    exact ⟨by rw [H.out]; simp [bytes_append], rfl⟩
theorem dec_one {n : Nat} (h : n < 10) : Lib.decDigits n = [digB n] := by rw [dec_digs, digsN_small h]; rfl
theorem idx_dig (ds : List Nat) (k d : Nat) (hk : ds[k]? = some d) (hd : d < 10) (wx : World) : (Instr.index 9 (.string ⟨(ds.map digB).toArray⟩) (.int .i64 k)).run Tryd.prog wx = .ok (.int .u8 (48 + d)) wx := by
  have hlt : k < ds.length := by
    rcases Nat.lt_or_ge k ds.length with h | h
    · exact h
    · rw [List.getElem?_eq_none h] at hk; cases hk
  have hg : ds[k] = d := by rw [List.getElem?_eq_getElem hlt] at hk; exact Option.some.inj hk
  have hsz : (⟨(ds.map digB).toArray⟩ : ByteArray).size = ds.length := by simp [ByteArray.size]
  rw [run_index_string (P := Tryd.prog) wx 9 _ .i64 (k : Int) Tryd.underlying9, dif_pos ⟨by omega, by rw [hsz]; omega⟩]
  have e : ((⟨(ds.map digB).toArray⟩ : ByteArray)[(k : Int).toNat]'(by rw [hsz]; omega)) = digB d := by
    show ((ds.map digB).toArray)[(k : Int).toNat]'_ = _
    simp [hg]
  rw [e, digB_toNat hd]
  simp
theorem halfD_len : ∀ (c : Nat) (ds : List Nat), (halfD c ds).length ≤ ds.length + 1
  | c, [] => by rw [halfD]; split <;> simp
  | c, d :: ds => by have := halfD_len ((10 * c + d) % 2) ds; rw [halfD]; simp only [List.length_cons]; omega
theorem extract_list (l : List UInt8) (a b : Nat) : (⟨l.toArray⟩ : ByteArray).extract a b = ⟨((l.drop a).take (b - a)).toArray⟩ := by
  apply ByteArray.ext
  simp [ByteArray.data_extract]
end Go.Proofs.YtplobfiopbncpaaDoor
