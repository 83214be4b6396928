/- Layer 2: the reference's value, digits, doubled. -/
import Derived.Test.YtdpcpfapleehmaaDoorDecX
namespace Go.Proofs.YtdpcpfapleehmaaDoor
open Go.RowKit
set_option linter.unusedVariables false
theorem idx_any (l : List UInt8) (k : Nat) (b : UInt8) (hk : l[k]? = some b) (wx : World) : (Instr.index 9 (.string ⟨l.toArray⟩) (.int .i64 k)).run Tryd.prog wx = .ok (.int .u8 (b.toNat : Int)) wx := by
  have hlt : k < l.length := by
    rcases Nat.lt_or_ge k l.length with h | h
    · exact h
    · rw [List.getElem?_eq_none h] at hk; cases hk
  have hg : l[k] = b := by rw [List.getElem?_eq_getElem hlt] at hk; exact Option.some.inj hk
  have hsz : (⟨l.toArray⟩ : ByteArray).size = l.length := by simp [ByteArray.size]
  rw [run_index_string (P := Tryd.prog) wx 9 _ .i64 (k : Int) Tryd.underlying9, dif_pos ⟨by omega, by rw [hsz]; omega⟩]
  have e : ((⟨l.toArray⟩ : ByteArray)[(k : Int).toNat]'(by rw [hsz]; omega)) = b := by
    show (l.toArray)[(k : Int).toNat]'_ = _
    simp [hg]
  rw [e]
def sub48 (b : UInt8) : Nat := (IntKind.u8.wrap ((b.toNat : Int) - 48)).toNat
theorem sub48_eq (b : UInt8) : IntKind.u8.wrap ((b.toNat : Int) - 48) = (sub48 b : Int) ∧ sub48 b ≤ 255 := by
  unfold sub48
  have h : 0 ≤ IntKind.u8.wrap ((b.toNat : Int) - 48) ∧ IntKind.u8.wrap ((b.toNat : Int) - 48) ≤ 255 := by
    unfold IntKind.wrap
    simp [IntKind.signed, IntKind.bits]
    omega
  omega
def valueGo : Nat → List UInt8 → Nat × Bool
  | n, [] => (n, decide (n ≤ 9223372036854775808))
  | n, b :: t => if 1000000000000000000 < n then (0, false) else valueGo (10 * n + sub48 b) t
set_option maxHeartbeats 2000000 in
theorem value_any (l : List UInt8) (hl : l.length ≤ 100) (w : World) : Calls Tryd.prog 29 #[.string ⟨l.toArray⟩] w fun e w' => e = .returned (.tuple #[.int .u64 ((valueGo 0 l).1 : Int), .bool (valueGo 0 l).2]) ∧ w = w' := by
  go_enter Tryd.func29, Tryd.ntmps29
  go_wp2_with fail
  go_loopw [4, 5] (fun nv i wr => ∃ (k n : Nat), k ≤ l.length ∧ n ≤ 10000000000000000255 ∧ Hid (valueGo 0 l = valueGo n (l.drop k)) ∧ nv = .int .u64 n ∧ i = .int .i64 k ∧ w = wr) (fun _ i _ => l.length - (intOf i).toNat)
  case atStart => exact ⟨0, 0, by omega, by omega, Lib.hid rfl, rfl, rfl, rfl⟩
  case round =>
    obtain ⟨k, n, hk, hn, HV, rfl, rfl, rfl⟩ := hrel
    by_cases hlt : k < l.length
    · have hlti : (k : Int) < (l.length : Int) := by omega
      have hdr : l.drop k = l[k] :: l.drop (k + 1) := List.drop_eq_getElem_cons hlt
      have hidx := fun wx => idx_any l k l[k] (List.getElem?_eq_getElem hlt) wx
      obtain ⟨s1, s2⟩ := sub48_eq l[k]
      have hb := l[k].toNat_lt
      have hv := HV.out
      rw [hdr, valueGo] at hv
      generalize l[k] = b at *
      clear HV hdr
      by_cases hbig : 1000000000000000000 < n
      · have hbi : (1000000000000000000 : Int) < (n : Int) := by omega
        rw [if_pos hbig] at hv
        have HV := Lib.hid hv
        clear hv
        go_wp2_with fail
        exact bodyPost_ret (v := .tuple #[.int .u64 0, .bool false]) (by simp [results, Tryd.results29, go_sem]) rfl ⟨by rw [HV.out]; rfl, rfl⟩
      · have hbi : ¬ (1000000000000000000 : Int) < (n : Int) := by omega
        rw [if_neg hbig] at hv
        have HV := Lib.hid hv
        clear hv
        go_wp2_with fail
        refine ⟨⟨k + 1, 10 * n + sub48 b, by omega, by omega, HV, by go_num, rfl, trivial⟩, ?_⟩
        show l.length - ((k : Int) + 1).toNat < l.length - ((k : Int)).toNat
        omega
    · obtain rfl : k = l.length := by omega
      have hlti : ¬ (l.length : Int) < (l.length : Int) := by omega
      have hv := HV.out
      rw [List.drop_length, valueGo] at hv
      have HV := Lib.hid hv
      clear hv
      go_wp2_with fail
      have ed : decide ((n : Int) ≤ 9223372036854775808) = decide (n ≤ 9223372036854775808) := by
        rw [decide_eq_decide]; omega
      exact bodyPost_ret (v := .tuple #[.int .u64 (n : Int), .bool (decide ((n : Int) ≤ 9223372036854775808))]) (by simp [results, Tryd.results29, go_sem]) rfl ⟨by rw [HV.out, ed], rfl⟩
def digB? (b : UInt8) : Bool := decide (48 ≤ b.toNat ∧ b.toNat ≤ 57)
def digitsF (l : List UInt8) : Bool := l.all digB? && decide (0 < l.length)
set_option maxHeartbeats 2000000 in
theorem digits_any (l : List UInt8) (hl : l.length ≤ 1000) (w : World) : Calls Tryd.prog 30 #[.string ⟨l.toArray⟩] w fun e w' => e = .returned (.bool (digitsF l)) ∧ w = w' := by
  go_enter Tryd.func30, Tryd.ntmps30
  go_wp2_with fail
  go_loopw [3] (fun i wr => ∃ (k : Nat), k ≤ l.length ∧ Hid (digitsF l = ((l.drop k).all digB? && decide (0 < l.length))) ∧ i = .int .i64 k ∧ w = wr) (fun i _ => l.length - (intOf i).toNat)
  case atStart => exact ⟨0, by omega, Lib.hid rfl, rfl, rfl⟩
  case round =>
    obtain ⟨k, hk, HV, rfl, rfl⟩ := hrel
    by_cases hlt : k < l.length
    · have hlti : (k : Int) < (l.length : Int) := by omega
      have hdr : l.drop k = l[k] :: l.drop (k + 1) := List.drop_eq_getElem_cons hlt
      have hidx := fun wx => idx_any l k l[k] (List.getElem?_eq_getElem hlt) wx
      have hv := HV.out
      rw [hdr, List.all_cons] at hv
      generalize l[k] = b at *
      clear HV hdr
      by_cases h1 : b.toNat < 48
      · have hi : (b.toNat : Int) < 48 := by omega
        rw [show digB? b = false by unfold digB?; simp; omega] at hv
        have HV := Lib.hid hv
        clear hv
        go_wp2_with fail
        go_ret
        exact ⟨by rw [HV.out]; rfl, rfl⟩
      · have hi : ¬ (b.toNat : Int) < 48 := by omega
        by_cases h2 : 57 < b.toNat
        · have hi2 : 57 < (b.toNat : Int) := by omega
          rw [show digB? b = false by unfold digB?; simp; omega] at hv
          have HV := Lib.hid hv
          clear hv
          go_wp2_with fail
          go_ret
          exact ⟨by rw [HV.out]; rfl, rfl⟩
        · have hi2 : ¬ 57 < (b.toNat : Int) := by omega
          rw [show digB? b = true by unfold digB?; simp; omega, Bool.true_and] at hv
          have HV := Lib.hid hv
          clear hv
          go_wp2_with fail
          refine ⟨⟨k + 1, by omega, HV, rfl, trivial⟩, ?_⟩
          show l.length - ((k : Int) + 1).toNat < l.length - ((k : Int)).toNat
          omega
    · obtain rfl : k = l.length := by omega
      have hlti : ¬ (l.length : Int) < (l.length : Int) := by omega
      have hv := HV.out
      rw [List.drop_length, List.all_nil, Bool.true_and] at hv
      have HV := Lib.hid hv
      clear hv
      by_cases h0 : 0 < l.length
      · have h0i : 0 < (l.length : Int) := by omega
        rw [show decide (0 < l.length) = true by simpa using h0] at HV
        go_wp2_with fail
        go_ret
        exact ⟨by rw [HV.out]; rfl, rfl⟩
      · have h0i : ¬ 0 < (l.length : Int) := by omega
        rw [show decide (0 < l.length) = false by simpa using h0] at HV
        go_wp2_with fail
        go_ret
        exact ⟨by rw [HV.out]; rfl, rfl⟩
set_option maxHeartbeats 2000000 in
theorem doubled_any (ds : List Nat) (hd : ∀ d ∈ ds, d < 10) (hl : ds.length ≤ 1000) (w : World) :
    Calls Tryd.prog 31 #[.string ⟨(ds.map digB).toArray⟩] w fun e w' => e = .returned (.tuple #[.int .u64 ((dblD ds).1 : Int), .string ⟨((dblD ds).2.map digB).toArray⟩]) ∧ w = w' := by
  go_enter Tryd.func31, Tryd.ntmps31
  go_wp2_with fail
  go_loopw [4, 5, 6] (fun o cv i wr => ∃ t : Nat, t ≤ ds.length ∧ o = .string ⟨((dblD (ds.drop t)).2.map digB).toArray⟩ ∧ cv = .int .i64 ((dblD (ds.drop t)).1 : Int) ∧ i = .int .i64 ((t : Int) - 1) ∧ w = wr) (fun _ _ i _ => (intOf i + 1).toNat)
  case atStart => exact ⟨ds.length, by omega, by rw [List.drop_length]; rfl, by rw [List.drop_length]; rfl, rfl, rfl⟩
  case round =>
    obtain ⟨t, ht, rfl, rfl, rfl, rfl⟩ := hrel
    cases t with
    | zero =>
      rw [List.drop_zero]
      have hcr := dblD_carry ds hd
      have EW := Lib.hid (show IntKind.u64.wrap ((dblD ds).1 : Int) = ((dblD ds).1 : Int) by rw [IntKind.wrap_u64]; omega)
      clear hcr
      go_wp2_with fail
      exact bodyPost_ret (v := .tuple #[.int .u64 (IntKind.u64.wrap ((dblD ds).1 : Int)), .string ⟨((dblD ds).2.map digB).toArray⟩]) (by simp [results, Tryd.results31, go_sem]) rfl ⟨by rw [EW.out], rfl⟩
    | succ t =>
      have htl : t < ds.length := by omega
      have hd' := hd ds[t] (List.getElem_mem htl)
      have hidx := fun wx => idx_dig ds t ds[t] (List.getElem?_eq_getElem htl) hd' wx
      have hcar := dblD_carry (ds.drop (t + 1)) (fun x hx => hd x (List.mem_of_mem_drop hx))
      have hdr : ds.drop t = ds[t] :: ds.drop (t + 1) := List.drop_eq_getElem_cons htl
      have hdl := dblD_length (ds.drop (t + 1))
      rw [List.length_drop] at hdl
      have HD := Lib.hid (show dblD (ds.drop t) = ((2 * ds[t] + (dblD (ds.drop (t + 1))).1) / 10, (2 * ds[t] + (dblD (ds.drop (t + 1))).1) % 10 :: (dblD (ds.drop (t + 1))).2) by rw [hdr, dblD])
      clear hdr
      generalize (dblD (ds.drop (t + 1))).1 = cr at *
      generalize (dblD (ds.drop (t + 1))).2 = fs at *
      generalize ds[t] = d at *
      obtain ⟨m, hm⟩ : ∃ m : Nat, m = 2 * d + cr := ⟨_, rfl⟩
      obtain ⟨h, hh⟩ : ∃ h : Nat, h = m / 10 := ⟨_, rfl⟩
      obtain ⟨r, hr⟩ : ∃ r : Nat, r = m % 10 := ⟨_, rfl⟩
      rw [← hm, ← hh, ← hr] at HD
      have EM := Lib.hid (show (2 * (48 + (d : Int) - 48) + (cr : Int)) = (m : Int) by omega)
      have EH := Lib.hid (show (m : Int) / 10 = (h : Int) by omega)
      have ER := Lib.hid (show (m : Int) % 10 = (r : Int) by omega)
      have hr10 : r < 10 := by omega
      have hm20 : m < 20 := by omega
      have hh2 : h < 2 := by omega
      clear hm hh hr
      have hlen : ¬ 9223372036854775807 < 1 + fs.length := by omega
      go_wp2_with fail
      rw [EM.out, ER.out]
      refine (unsigned_any r (by omega) _).mono ?_
      rintro e w' ⟨rfl, rfl⟩
      rw [dec_one hr10]
      go_wp2_with fail
      rw [EH.out]
      refine ⟨⟨t, by omega, ?_, ?_, ?_, trivial⟩, ?_⟩
      · rw [HD.out]; simp [bytes_append]
      · rw [HD.out]
      · first | rfl | go_num | (congr 1; omega)
      · show ((t : Int) - 1 + 1).toNat < ((((t + 1 : Nat) : Int) - 1) + 1).toNat
        omega
end Go.Proofs.YtdpcpfapleehmaaDoor
