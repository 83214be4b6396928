/- Layer 2: the reference's Text. -/
import Derived.Test.YtcnabebcckbfkaaDoorDecN
import Derived.Test.YtcnabebcckbfkaaDoorDecP
namespace Go.Proofs.YtcnabebcckbfkaaDoor
open Go.RowKit
set_option linter.unusedVariables false
set_option maxHeartbeats 2000000 in
theorem unsigned_any (n : Nat) (hn : n < 18446744073709551616) : ∀ (w : World),
    Calls Tryd.prog 71 #[.int .u64 n] w fun e w' => e = .returned (.string ⟨(Lib.decDigits n).toArray⟩) ∧ w = w' := by
  induction n using Nat.strongRecOn with
  | ind n ih =>
  intro w
  have hs : ∀ (wx : World), (Instr.slice 9 (.string ⟨#[48, 49, 50, 51, 52, 53, 54, 55, 56, 57]⟩) (some (.int .u64 ((n : Int) % 10))) (some (.int .u64 ((n : Int) % 10 + 1))) none).run Tryd.prog wx = .ok (.string ⟨[digB (n % 10)].toArray⟩) wx := by
    intro wx
    rw [run_slice_string (P := Tryd.prog) (w := wx) 9 _ .u64 .u64 ((n : Int) % 10) ((n : Int) % 10 + 1) Tryd.underlying9 (by omega) (by omega) (by show _ ≤ ((10 : Nat) : Int); omega)]
    have e1 : ((n : Int) % 10).toNat = n % 10 := by omega
    have e2 : ((n : Int) % 10 + 1).toNat = n % 10 + 1 := by omega
    rw [e1, e2]
    have hk : ∀ k : Fin 10, (⟨#[48, 49, 50, 51, 52, 53, 54, 55, 56, 57]⟩ : ByteArray).extract k.val (k.val + 1) = ⟨[digB k.val].toArray⟩ := by decide +kernel
    rw [hk ⟨n % 10, by omega⟩]
  by_cases h : n < 10
  · have hd : Lib.decDigits n = [digB (n % 10)] := by rw [dec_digs, digsN_small h, Nat.mod_eq_of_lt h]; rfl
    have H := Lib.hid hd
    have hi : (n : Int) < 10 := by omega
    clear hd
    go_enter Tryd.func71, Tryd.ntmps71
    go_wp2_with fail
    go_ret
    exact ⟨by rw [H.out]; rfl, rfl⟩
  · have hd : Lib.decDigits n = Lib.decDigits (n / 10) ++ [digB (n % 10)] := by rw [dec_digs, digsN_big h, List.map_append, dec_digs]; rfl
    have H := Lib.hid hd
    have HI := Lib.hid (ih (n / 10) (by omega) (by omega))
    have hl := dec_len (n / 10) (by omega)
    have hi : ¬ (n : Int) < 10 := by omega
    have E10 := Lib.hid (show (n : Int) / 10 = ((n / 10 : Nat) : Int) by omega)
    have hlen : ¬ 9223372036854775807 < (Lib.decDigits (n / 10)).length + 1 := by omega
    clear hd ih hl
    go_enter Tryd.func71, Tryd.ntmps71
    go_wp2_with fail
    rw [E10.out]
    refine (HI.out _).mono ?_
    rintro e w' ⟨rfl, rfl⟩
    go_wp2_with fail
    go_ret
    exact ⟨by rw [H.out]; simp [bytes_append], rfl⟩
theorem dec_one {n : Nat} (h : n < 10) : Lib.decDigits n = [digB n] := by rw [dec_digs, digsN_small h]; rfl
theorem idx_dig (ds : List Nat) (k d : Nat) (hk : ds[k]? = some d) (hd : d < 10) (wx : World) : (Instr.index 9 (.string ⟨(ds.map digB).toArray⟩) (.int .i64 k)).run Tryd.prog wx = .ok (.int .u8 (48 + d)) wx := by
  have hlt : k < ds.length := by
    rcases Nat.lt_or_ge k ds.length with h | h
    · exact h
    · rw [List.getElem?_eq_none h] at hk; cases hk
  have hg : ds[k] = d := by rw [List.getElem?_eq_getElem hlt] at hk; exact Option.some.inj hk
  have hsz : (⟨(ds.map digB).toArray⟩ : ByteArray).size = ds.length := by simp [ByteArray.size]
  rw [run_index_string (P := Tryd.prog) wx 9 _ .i64 (k : Int) Tryd.underlying9, dif_pos ⟨by omega, by rw [hsz]; omega⟩]
  have e : ((⟨(ds.map digB).toArray⟩ : ByteArray)[(k : Int).toNat]'(by rw [hsz]; omega)) = digB d := by
    show ((ds.map digB).toArray)[(k : Int).toNat]'_ = _
    simp [hg]
  rw [e, digB_toNat hd]
  simp
theorem halfD_len : ∀ (c : Nat) (ds : List Nat), (halfD c ds).length ≤ ds.length + 1
  | c, [] => by rw [halfD]; split <;> simp
  | c, d :: ds => by have := halfD_len ((10 * c + d) % 2) ds; rw [halfD]; simp only [List.length_cons]; omega
set_option maxHeartbeats 2000000 in
theorem halved_any (ds : List Nat) (hd : ∀ d ∈ ds, d < 10) (hl : ds.length ≤ 100) (w : World) :
    Calls Tryd.prog 84 #[.string ⟨(ds.map digB).toArray⟩] w fun e w' => e = .returned (.string ⟨((halfD 0 ds).map digB).toArray⟩) ∧ w = w' := by
  go_enter Tryd.func84, Tryd.ntmps84
  go_wp2_with fail
  go_loopw [3, 4, 5] (fun o cv i wr => ∃ (k c : Nat) (done : List Nat), k ≤ ds.length ∧ c ≤ 1 ∧ done.length = k ∧ halfD 0 ds = done ++ halfD c (ds.drop k) ∧ o = .string ⟨(done.map digB).toArray⟩ ∧ cv = .int .i64 c ∧ i = .int .i64 k ∧ w = wr) (fun _ _ i _ => ds.length - (intOf i).toNat)
  case atStart => exact ⟨0, 0, [], by omega, by omega, rfl, rfl, rfl, rfl, rfl, rfl⟩
  case round =>
    obtain ⟨k, c, done, hk, hc, hdl, hh, rfl, rfl, rfl, rfl⟩ := hrel
    by_cases hlt : k < ds.length
    · have hd' := hd ds[k] (List.getElem_mem hlt)
      have hidx := fun wx => idx_dig ds k ds[k] (List.getElem?_eq_getElem hlt) hd' wx
      have hdr : ds.drop k = ds[k] :: ds.drop (k + 1) := List.drop_eq_getElem_cons hlt
      rw [hdr, halfD] at hh
      have HH := Lib.hid hh
      clear hh hdr
      generalize hdd : ds[k] = d at *
      clear hdd
      have hlti : (k : Int) < (ds.length : Int) := by omega
      obtain ⟨m, hm⟩ : ∃ m : Nat, m = 10 * c + d := ⟨_, rfl⟩
      obtain ⟨h, hh⟩ : ∃ h : Nat, h = m / 2 := ⟨_, rfl⟩
      obtain ⟨r, hr⟩ : ∃ r : Nat, r = m % 2 := ⟨_, rfl⟩
      have hm20 : m < 20 := by omega
      have hh10 : h < 10 := by omega
      have hr1 : r ≤ 1 := by omega
      have EM := Lib.hid (show (10 * (c : Int) + (48 + (d : Int) - 48)) = (m : Int) by omega)
      have EH := Lib.hid (show (m : Int) / 2 = (h : Int) by omega)
      have ER := Lib.hid (show (m : Int) % 2 = (r : Int) by omega)
      rw [← hm, ← hh, ← hr] at HH
      clear hh hr hm
      have hlen : ¬ 9223372036854775807 < done.length + 1 := by omega
      go_wp2_with fail
      rw [EM.out, EH.out]
      refine (unsigned_any h (by omega) _).mono ?_
      rintro e w' ⟨rfl, rfl⟩
      rw [dec_one hh10]
      go_wp2_with fail
      rw [ER.out]
      refine ⟨⟨k + 1, r, done ++ [h], by omega, hr1, by simp [hdl], by rw [HH.out]; simp, ?_, rfl, rfl, trivial⟩, ?_⟩
      · simp [bytes_append]
      · show ds.length - ((k : Int) + 1).toNat < ds.length - ((k : Int)).toNat
        omega
    · obtain rfl : k = ds.length := by omega
      rw [List.drop_length] at hh
      have hlti : ¬ (ds.length : Int) < (ds.length : Int) := by omega
      have HH := Lib.hid hh
      clear hh
      rcases (show c = 0 ∨ c = 1 by omega) with h | h
      · subst h
        go_wp2_with fail
        go_ret
        refine ⟨by rw [HH.out]; simp [halfD], rfl⟩
      · subst h
        have hlen : ¬ 9223372036854775807 < done.length + 1 := by omega
        go_wp2_with fail
        go_ret
        refine ⟨by rw [HH.out]; simp [halfD, bytes_append]; rfl, rfl⟩
theorem extract_list (l : List UInt8) (a b : Nat) : (⟨l.toArray⟩ : ByteArray).extract a b = ⟨((l.drop a).take (b - a)).toArray⟩ := by
  apply ByteArray.ext
  simp [ByteArray.data_extract]
set_option maxHeartbeats 2000000 in
theorem half_any (c : Nat) (hc : c ≤ 1) (ds : List Nat) (hd : ∀ d ∈ ds, d < 10) (hl : ds.length ≤ 99) (w : World) :
    Calls Tryd.prog 70 #[.int .i64 c, .string ⟨(ds.map digB).toArray⟩] w fun e w' => e = .returned (.string ⟨((halfD c ds).map digB).toArray⟩) ∧ Below w.heap.size w w' := by
  have HV := Lib.hid (fun W => halved_any (c :: ds) (by intro d h; rcases List.mem_cons.1 h with rfl | h; omega; exact hd d h) (by rw [List.length_cons]; omega) W)
  have hlen : ¬ 9223372036854775807 < 1 + ds.length := by omega
  have e48 : IntKind.u8.wrap (48 + (c : Int)) = 48 + (c : Int) := by unfold IntKind.wrap; simp [IntKind.signed, IntKind.bits]; omega
  go_enter Tryd.func70, Tryd.ntmps70
  have hcell : ∀ i, i < 1 → (w.alloc (Obj.cells #[Value.int IntKind.u8 (48 + (c : Int))] 5)).cell? ⟨w.heap.size, 0 + i, none⟩ = some (.int .u8 ([48 + (c : Int)].getD i 0)) := by
    intro i hi
    obtain rfl : i = 0 := by omega
    rw [World.cell?_alloc_mark]
    rfl
  have hcv := run_convert_bytes_arg (P := Tryd.prog) (w.alloc (Obj.cells #[Value.int IntKind.u8 (48 + (c : Int))] 5)) 80 5 Tryd.underlying80 Tryd.underlying5 w.heap.size 0 1 1 [48 + (c : Int)] rfl hcell 9 Tryd.underlying9
  have hst : strOfNums [48 + (c : Int)] = ⟨[digB c].toArray⟩ := by
    unfold strOfNums digB
    have e : (48 + (c : Int)).toNat = 48 + c := by omega
    simp [e]
  rw [hst] at hcv
  have al := (Below.refl w.heap.size w).alloc (Nat.le_refl _) (Obj.cells #[Value.int IntKind.u8 (48 + (c : Int))] 5)
  have HAL := Lib.hid al
  have H0 := Lib.hid (show halfD 0 (c :: ds) = 0 :: halfD c ds by
    rw [halfD]
    have e1 : (10 * 0 + c) / 2 = 0 := by omega
    have e2 : (10 * 0 + c) % 2 = c := by omega
    rw [e1, e2])
  clear hst hcell al
  go_wp2_with fail
  refine (HV.out _).mono ?_
  rintro e w' ⟨rfl, rfl⟩
  rw [H0.out]
  go_wp2_with fail
  go_ret
  refine ⟨?_, HAL.out⟩
  have e := extract_list (digB 0 :: (halfD c ds).map digB) 1 ((halfD c ds).length + 1)
  rw [List.drop_succ_cons, List.drop_zero, Nat.add_sub_cancel, List.take_of_length_le (by rw [List.length_map]; exact Nat.le_refl _)] at e
  exact congrArg (fun x => Ending.returned (Value.string x)) e
end Go.Proofs.YtcnabebcckbfkaaDoor
