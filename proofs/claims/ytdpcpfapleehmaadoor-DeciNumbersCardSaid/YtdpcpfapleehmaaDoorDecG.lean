/- Layer 2: the reference's Parse. -/
import Derived.Test.YtdpcpfapleehmaaDoorDecE
namespace Go.Proofs.YtdpcpfapleehmaaDoor
open Go.RowKit
set_option linter.unusedVariables false
theorem refParse_out (l : List UInt8) (q : Int) (h : inQ q = false ∨ inQ q = true ∧ 100 < l.length) (w : World) : Calls Tryd.prog 12 #[.string ⟨l.toArray⟩, .int .i64 q] w fun e w' => e = .returned (.tuple #[.int .i64 0, .bool false]) ∧ w = w' := by
  have hq' : q < 0 ∨ (¬ q < 0 ∧ 62 < q) ∨ (¬ q < 0 ∧ ¬ 62 < q ∧ 100 < (l.length : Int)) := by unfold inQ at h; simp at h; omega
  clear h
  rcases hq' with h | ⟨h, h2⟩ | ⟨h, h2, h3⟩
  all_goals
    go_enter Tryd.func12, Tryd.ntmps12
    go_wp2_with fail
    exact bodyPost_ret (v := .tuple #[.int .i64 0, .bool false]) (by simp [results, Tryd.results12, go_sem]) rfl ⟨rfl, rfl⟩
theorem list_of_bytes {a b : List UInt8} (h : (⟨a.toArray⟩ : ByteArray) = ⟨b.toArray⟩) : a = b := by
  have h3 := congrArg ByteArray.data h
  have h4 := congrArg Array.toList h3
  simpa using h4
theorem valueGo_le : ∀ (n : Nat) (l : List UInt8), n ≤ 10000000000000000255 → (valueGo n l).1 ≤ 10000000000000000255
  | n, [], h => h
  | n, b :: t, h => by
    rw [valueGo]
    have := (sub48_eq b).2
    split
    · exact Nat.zero_le _
    · exact valueGo_le _ t (by omega)
/-- the number that the reference makes -/
def candR (k : Nat) (neg : Bool) (n : Nat) (ds : List Nat) : Int := if neg = true then IntKind.i64.wrap (IntKind.u64.wrap (-((bitsD k n ds % 18446744073709551616 : Nat) : Int))) else IntKind.i64.wrap ((bitsD k n ds % 18446744073709551616 : Nat) : Int)
theorem candR_range (k : Nat) (neg : Bool) (n : Nat) (ds : List Nat) : -9223372036854775808 ≤ candR k neg n ds ∧ candR k neg n ds ≤ 9223372036854775807 := by
  unfold candR
  split <;> rw [IntKind.wrap_i64] <;> omega
theorem candR_text (y : Int) (k : Nat) (hk : k ≤ 62) (h0 : -9223372036854775808 ≤ y) (h1 : y ≤ 9223372036854775807) : candR k (decide (y < 0)) (y.natAbs / 2 ^ k) (fracL k (y.natAbs % 2 ^ k)) = y := by
  unfold candR
  have hm := Nat.mod_lt y.natAbs (pow_pos2 k)
  have hd := Nat.div_add_mod y.natAbs (2 ^ k)
  rw [bits_frac (by omega) hm, Nat.mul_comm, hd]
  by_cases h : y < 0
  · rw [if_pos (by simpa using h), IntKind.wrap_i64, IntKind.wrap_u64]
    omega
  · rw [if_neg (by simpa using h), IntKind.wrap_i64]
    omega

set_option maxHeartbeats 4000000 in
theorem refParse_neg (d : List UInt8) (k : Nat) (hk : k ≤ 62) (hl : (45 :: d).length ≤ 100) (w : World) : Calls Tryd.prog 12 #[.string ⟨(45 :: d).toArray⟩, .int .i64 k] w fun e w' => (∃ x ok, e = .returned (.tuple #[.int .i64 x, .bool ok]) ∧ ParseIs ⟨(45 :: d).toArray⟩ k x ok) ∧ Below w.heap.size w w' := by
  have hk0 : ¬ (k : Int) < 0 := by omega
  have hk2 : ¬ 62 < (k : Int) := by omega
  have hin : inQ (k : Int) = true := by unfold inQ; simp; omega
  have HIN := Lib.hid hin
  have et : ∀ z : Int, textB z (k : Int) = textL z k := fun z => by unfold textB; rw [if_pos (by omega), Int.toNat_natCast]
  have HX : Hid (∀ y : Int, (⟨(textB y k).toArray⟩ : ByteArray) = ⟨(45 :: d).toArray⟩ → true = decide (y < 0) ∧ d.take (pointAt d) = (digsN (y.natAbs / 2 ^ k)).map digB ∧ (pointAt d < d.length → d.drop (pointAt d + 1) = (fracL k (y.natAbs % 2 ^ k)).map digB ∧ y.natAbs % 2 ^ k ≠ 0) ∧ (¬ pointAt d < d.length → y.natAbs % 2 ^ k = 0)) := Lib.hid (fun y h => ref_text y k (45 :: d) d true (.inl ⟨rfl, rfl⟩) (by
    rw [et] at h
    have h3 := congrArg ByteArray.data h
    have h4 := congrArg Array.toList h3
    simpa using h4))
  have hle := pointAt_le d
  have HBE := Lib.hid (pointAt_before d)
  have HIS := Lib.hid (pointAt_is d)
  have hTl : (d.take (pointAt d)).length ≤ 100 := by rw [List.length_take]; simp only [List.length_cons] at hl; omega
  have hdl : d.length ≤ 100 := by simp only [List.length_cons] at hl; omega
  have HVA := Lib.hid (fun W => value_any (d.take (pointAt d)) hTl W)
  have HDA := Lib.hid (fun W => digits_any (d.take (pointAt d)) (by omega) W)
  have eT : (⟨d.toArray⟩ : ByteArray).extract 0 (pointAt d) = ⟨(d.take (pointAt d)).toArray⟩ := by rw [extract_list, List.drop_zero, Nat.sub_zero]
  have eP : (⟨d.toArray⟩ : ByteArray).extract (pointAt d + 1) d.length = ⟨(d.drop (pointAt d + 1)).toArray⟩ := by rw [extract_list, List.take_of_length_le (by rw [List.length_drop]; exact Nat.le_refl _)]
  have ET := Lib.hid eT
  have EP := Lib.hid eP
  have e1 : (⟨(45 :: d).toArray⟩ : ByteArray).extract 1 (d.length + 1) = ⟨d.toArray⟩ := by rw [extract_list, List.drop_succ_cons, List.drop_zero, List.take_of_length_le (by omega)]
  have i0 := fun wx => idx_any (45 :: d) 0 45 rfl wx
  have hli : ¬ 100 < ((45 :: d).length : Int) := by omega
  
  clear hin et eT eP

  go_enter Tryd.func12, Tryd.ntmps12
  go_wp2_with fail
  go_loopw [7] (fun i wr => ∃ j : Nat, j ≤ pointAt d ∧ i = .int .i64 j ∧ w = wr) (fun i _ => pointAt d - (intOf i).toNat)
  case atStart => exact ⟨0, by omega, rfl, rfl⟩
  case round =>
    obtain ⟨j, hj, rfl, rfl⟩ := hrel
    by_cases hlt : j < pointAt d
    · have hjd : j < d.length := by omega
      have hidx := fun wx => idx_any d j d[j] (List.getElem?_eq_getElem hjd) wx
      have hb := HBE.out j hlt hjd
      have hlti : (j : Int) < (d.length : Int) := by omega
      generalize d[j] = b at *
      have hbn : ¬ b.toNat = 46 := fun e => hb (UInt8.toNat_inj.1 e)
      have hbi : ¬ (b.toNat : Int) = 46 := by omega
      clear hb
      go_wp2_with fail
      refine ⟨⟨j + 1, by omega, rfl, trivial⟩, ?_⟩
      show pointAt d - ((j : Int) + 1).toNat < pointAt d - ((j : Int)).toNat
      omega
    · obtain rfl : j = pointAt d := by omega
      have hpi : (pointAt d : Int) ≤ (d.length : Int) := by omega
      by_cases hA : pointAt d < d.length
      · have hidx := fun wx => idx_any d (pointAt d) d[pointAt d] (List.getElem?_eq_getElem hA) wx
        rw [HIS.out hA] at hidx
        have hAi : (pointAt d : Int) < (d.length : Int) := by omega
        have hA1 : (pointAt d : Int) + 1 ≤ (d.length : Int) := by omega
        generalize pointAt d = A at *
        have HAH := Lib.hid hA
        generalize d.take A = T at *
        obtain ⟨n, okv, hv⟩ : ∃ n okv, valueGo 0 T = (n, okv) := ⟨_, _, rfl⟩
        have hn : n ≤ 10000000000000000255 := by have h := valueGo_le 0 T (by omega); rw [hv] at h; exact h
        have HV2 := Lib.hid hv
        have HVA2 := Lib.hid (fun W => by have h := HVA.out W; rw [hv] at h; exact h)
        clear hv HVA
        have HPl : (d.drop (A + 1)).length ≤ 100 := by rw [List.length_drop]; omega
        have HDP := Lib.hid (fun W => digits_any (d.drop (A + 1)) (by omega) W)
        generalize d.drop (A + 1) = Q at *
        go_wp2_with fail
        rw [ET.out]
        refine (HVA2.out _).mono ?_
        rintro e w1 ⟨rfl, rfl⟩
        go_wp2_with fail
        rw [ET.out]
        try rw [EP.out]
        refine (HDA.out _).mono ?_
        rintro e w2 ⟨rfl, rfl⟩
        cases hdT : digitsF T with
        | false =>
          have HT0 := Lib.hid hdT
          clear hdT
          go_wp2_with fail
          exact bodyPost_ret (v := .tuple #[.int .i64 0, .bool false]) (by simp [results, Tryd.results12, go_sem]) rfl ⟨⟨0, false, rfl, .inr ⟨rfl, rfl, fun y y0 y1 _ h => by have e := (HX.out y h).2.1; have h9 := digitsF_digits _ (digsN_lt (y.natAbs / 2 ^ k)) (digsN_ne _); rw [← e, HT0.out] at h9; cases h9⟩⟩, Below.refl _ _⟩
        | true =>
          clear hdT
          cases okv with
          | false =>
            go_wp2_with fail
            exact bodyPost_ret (v := .tuple #[.int .i64 0, .bool false]) (by simp [results, Tryd.results12, go_sem]) rfl ⟨⟨0, false, rfl, .inr ⟨rfl, rfl, fun y y0 y1 _ h => by have e := (HX.out y h).2.1; have h8 := Nat.div_le_self y.natAbs (2 ^ k); have h9 := value_digs (y.natAbs / 2 ^ k) (by omega); rw [← e, HV2.out] at h9; exact absurd (congrArg Prod.snd h9) (fun h => by cases h)⟩⟩, Below.refl _ _⟩
          | true =>
            go_wp2_with fail
            refine (HDP.out _).mono ?_
            rintro e w3 ⟨rfl, rfl⟩
            cases hdQ : digitsF Q with
            | false =>
              have HQ0 := Lib.hid hdQ
              clear hdQ
              go_wp2_with fail
              exact bodyPost_ret (v := .tuple #[.int .i64 0, .bool false]) (by simp [results, Tryd.results12, go_sem]) rfl ⟨⟨0, false, rfl, .inr ⟨rfl, rfl, fun y y0 y1 _ h => by have e := (HX.out y h).2.2.1 HAH.out; have h9 := digitsF_digits _ (fracL_digit (Nat.mod_lt y.natAbs (pow_pos2 k))) (fracL_ne (by omega) e.2); rw [← e.1, HQ0.out] at h9; cases h9⟩⟩, Below.refl _ _⟩
            | true =>
              have hall : Q.all digB? = true := by unfold digitsF at hdQ; rw [Bool.and_eq_true] at hdQ; exact hdQ.1
              obtain ⟨ds, hds, rfl, hdsl⟩ := digits_of Q hall
              clear hdQ hall
              have HDS := Lib.hid (show ∀ y : Int, (⟨(textB y k).toArray⟩ : ByteArray) = ⟨(45 :: d).toArray⟩ → ds = fracL k (y.natAbs % 2 ^ k) from fun y h => map_digB_inj hds (fracL_digit (Nat.mod_lt _ (pow_pos2 k))) ((HX.out y h).2.2.1 HAH.out).1)
              have hds100 : ds.length ≤ 100 := by omega
              go_wp2_with fail
              go_loopw [8, 10, 11] (fun nv pv iv wr2 => ∃ (j x : Nat) (es : List Nat), j ≤ k ∧ (∀ z ∈ es, z < 10) ∧ es.length ≤ 100 ∧ Hid (bitsD (k - j) x es = bitsD k n ds) ∧ nv = .int .u64 ((x % 18446744073709551616 : Nat) : Int) ∧ pv = .string ⟨(es.map digB).toArray⟩ ∧ iv = .int .i64 j ∧ Below w.heap.size w wr2) (fun _ _ iv _ => k - (intOf iv).toNat)
              case atStart => exact ⟨0, n, ds, by omega, hds, hds100, Lib.hid rfl, by congr 2; omega, rfl, rfl, Below.refl _ _⟩
              case round =>
                obtain ⟨j, x, es, hj, hes, hesl, HBT, rfl, rfl, rfl, hB⟩ := hrel
                have HB := Lib.hid hB
                clear hB
                by_cases hjk : j < k
                · have hjki : (j : Int) < (k : Int) := by omega
                  have hcar := dblD_carry es hes
                  have HDB := Lib.hid (fun W => doubled_any es hes (by omega) W)
                  have HBS := Lib.hid (show bitsD (k - (j + 1)) (2 * x + (dblD es).1) (dblD es).2 = bitsD k n ds by rw [← HBT.out, show k - j = (k - (j + 1)) + 1 by omega, bitsD])
                  have H10 := Lib.hid (dblD_digit es)
                  have HL2 := Lib.hid (show (dblD es).2.length ≤ 100 by rw [dblD_length]; exact hesl)
                  clear HBT
                  generalize (dblD es).1 = cr at *
                  generalize (dblD es).2 = fs at *
                  go_wp2_with fail
                  refine (HDB.out _).mono ?_
                  rintro e w4 ⟨rfl, rfl⟩
                  go_wp2_with fail
                  refine ⟨⟨j + 1, 2 * x + cr, fs, by omega, H10.out, HL2.out, HBS, ?_, rfl, rfl, HB.out⟩, ?_⟩
                  · congr 1
                    rw [IntKind.wrap_u64]
                    try rw [IntKind.wrap_u64]
                    omega
                  · show k - ((j : Int) + 1).toNat < k - ((j : Int)).toNat
                    omega
                · obtain rfl : j = k := by omega
                  have hjki : ¬ (j : Int) < (j : Int) := by omega
                  have hbt := HBT.out
                  rw [Nat.sub_self, bitsD] at hbt
                  have HC := Lib.hid (show candR j true n ds = wrap64 (IntKind.u64.wrap (-((x % 18446744073709551616 : Nat) : Int))) by unfold candR; rw [← hbt]; first | rfl | (simp [IntKind.wrap_i64, wrap64]; done))
                  have HCR := Lib.hid (candR_range j true n ds)
                  have HNO := Lib.hid (show ∀ y : Int, -9223372036854775808 ≤ y → y ≤ 9223372036854775807 → (⟨(textB y j).toArray⟩ : ByteArray) = ⟨(45 :: d).toArray⟩ → candR j true n ds = y from fun y y0 y1 h => by
                    have e := HX.out y h
                    have h8 := Nat.div_le_self y.natAbs (2 ^ j)
                    have h9 := value_digs (y.natAbs / 2 ^ j) (by omega)
                    rw [← e.2.1, HV2.out] at h9
                    have h10 : n = y.natAbs / 2 ^ j := congrArg Prod.fst h9
                    rw [HDS.out y h, h10, e.1]
                    exact candR_text y j hk y0 y1)
                  rw [HC.out] at HNO HCR
                  obtain ⟨r, hr⟩ : ∃ r : Nat, r = x % 18446744073709551616 := ⟨_, rfl⟩
                  rw [← hr] at HNO HCR ⊢
                  clear hbt HBT HC hr
                  go_wp2_with fail
                  generalize wrap64 (IntKind.u64.wrap (-(r : Int))) = c at *
                  refine (refText_any c j HCR.out.1 HCR.out.2 _).mono ?_
                  rintro e w5 ⟨rfl, b5⟩
                  have B5 := Lib.hid (HB.out.trans (b5.mono HB.out.size))
                  clear b5
                  by_cases hq : textB c j = (45 :: d)
                  · have hqb : (textB c j == (45 :: d)) = true := by simpa using hq
                    have HQ := Lib.hid hq
                    clear hq
                    go_wp2_with fail
                    exact bodyPost_ret (v := .tuple #[.int .i64 c, .bool true]) (by simp [results, Tryd.results12, go_sem]) rfl ⟨⟨c, true, rfl, .inl ⟨rfl, HIN.out, HCR.out, by rw [HQ.out]⟩⟩, B5.out⟩
                  · have hqb : (textB c j == (45 :: d)) = false := by simpa using hq
                    have HQ := Lib.hid hq
                    clear hq
                    go_wp2_with fail
                    exact bodyPost_ret (v := .tuple #[.int .i64 0, .bool false]) (by simp [results, Tryd.results12, go_sem]) rfl ⟨⟨0, false, rfl, .inr ⟨rfl, rfl, fun y y0 y1 _ h => HQ.out (by rw [HNO.out y y0 y1 h]; exact list_of_bytes h)⟩⟩, B5.out⟩
      · have hAi : ¬ (pointAt d : Int) < (d.length : Int) := by omega
        generalize pointAt d = A at *
        have HAH := Lib.hid hA
        generalize d.take A = T at *
        obtain ⟨n, okv, hv⟩ : ∃ n okv, valueGo 0 T = (n, okv) := ⟨_, _, rfl⟩
        have hn : n ≤ 10000000000000000255 := by have h := valueGo_le 0 T (by omega); rw [hv] at h; exact h
        have HV2 := Lib.hid hv
        have HVA2 := Lib.hid (fun W => by have h := HVA.out W; rw [hv] at h; exact h)
        clear hv HVA
        go_wp2_with fail
        rw [ET.out]
        refine (HVA2.out _).mono ?_
        rintro e w1 ⟨rfl, rfl⟩
        go_wp2_with fail
        rw [ET.out]
        refine (HDA.out _).mono ?_
        rintro e w2 ⟨rfl, rfl⟩
        cases hdT : digitsF T with
        | false =>
          have HT0 := Lib.hid hdT
          clear hdT
          go_wp2_with fail
          exact bodyPost_ret (v := .tuple #[.int .i64 0, .bool false]) (by simp [results, Tryd.results12, go_sem]) rfl ⟨⟨0, false, rfl, .inr ⟨rfl, rfl, fun y y0 y1 _ h => by have e := (HX.out y h).2.1; have h9 := digitsF_digits _ (digsN_lt (y.natAbs / 2 ^ k)) (digsN_ne _); rw [← e, HT0.out] at h9; cases h9⟩⟩, Below.refl _ _⟩
        | true =>
          clear hdT
          cases okv with
          | false =>
            go_wp2_with fail
            exact bodyPost_ret (v := .tuple #[.int .i64 0, .bool false]) (by simp [results, Tryd.results12, go_sem]) rfl ⟨⟨0, false, rfl, .inr ⟨rfl, rfl, fun y y0 y1 _ h => by have e := (HX.out y h).2.1; have h8 := Nat.div_le_self y.natAbs (2 ^ k); have h9 := value_digs (y.natAbs / 2 ^ k) (by omega); rw [← e, HV2.out] at h9; exact absurd (congrArg Prod.snd h9) (fun h => by cases h)⟩⟩, Below.refl _ _⟩
          | true =>
            go_wp2_with fail
            obtain ⟨ds, hds0⟩ : ∃ ds : List Nat, ds = [] := ⟨_, rfl⟩
            have hds : ∀ x ∈ ds, x < 10 := by rw [hds0]; simp
            have HDS := Lib.hid (show ∀ y : Int, (⟨(textB y k).toArray⟩ : ByteArray) = ⟨(45 :: d).toArray⟩ → ds = fracL k (y.natAbs % 2 ^ k) from fun y h => by rw [(HX.out y h).2.2.2 HAH.out, fracL_zero]; exact hds0)
            have hds100 : ds.length ≤ 100 := by rw [hds0]; simp
            rw [show (⟨#[]⟩ : ByteArray) = ⟨(ds.map digB).toArray⟩ by rw [hds0]; rfl]
            clear hds0
            go_loopw [8, 10, 11] (fun nv pv iv wr2 => ∃ (j x : Nat) (es : List Nat), j ≤ k ∧ (∀ z ∈ es, z < 10) ∧ es.length ≤ 100 ∧ Hid (bitsD (k - j) x es = bitsD k n ds) ∧ nv = .int .u64 ((x % 18446744073709551616 : Nat) : Int) ∧ pv = .string ⟨(es.map digB).toArray⟩ ∧ iv = .int .i64 j ∧ Below w.heap.size w wr2) (fun _ _ iv _ => k - (intOf iv).toNat)
            case atStart => exact ⟨0, n, ds, by omega, hds, hds100, Lib.hid rfl, by congr 2; omega, rfl, rfl, Below.refl _ _⟩
            case round =>
              obtain ⟨j, x, es, hj, hes, hesl, HBT, rfl, rfl, rfl, hB⟩ := hrel
              have HB := Lib.hid hB
              clear hB
              by_cases hjk : j < k
              · have hjki : (j : Int) < (k : Int) := by omega
                have hcar := dblD_carry es hes
                have HDB := Lib.hid (fun W => doubled_any es hes (by omega) W)
                have HBS := Lib.hid (show bitsD (k - (j + 1)) (2 * x + (dblD es).1) (dblD es).2 = bitsD k n ds by rw [← HBT.out, show k - j = (k - (j + 1)) + 1 by omega, bitsD])
                have H10 := Lib.hid (dblD_digit es)
                have HL2 := Lib.hid (show (dblD es).2.length ≤ 100 by rw [dblD_length]; exact hesl)
                clear HBT
                generalize (dblD es).1 = cr at *
                generalize (dblD es).2 = fs at *
                go_wp2_with fail
                refine (HDB.out _).mono ?_
                rintro e w4 ⟨rfl, rfl⟩
                go_wp2_with fail
                refine ⟨⟨j + 1, 2 * x + cr, fs, by omega, H10.out, HL2.out, HBS, ?_, rfl, rfl, HB.out⟩, ?_⟩
                · congr 1
                  rw [IntKind.wrap_u64]
                  try rw [IntKind.wrap_u64]
                  omega
                · show k - ((j : Int) + 1).toNat < k - ((j : Int)).toNat
                  omega
              · obtain rfl : j = k := by omega
                have hjki : ¬ (j : Int) < (j : Int) := by omega
                have hbt := HBT.out
                rw [Nat.sub_self, bitsD] at hbt
                have HC := Lib.hid (show candR j true n ds = wrap64 (IntKind.u64.wrap (-((x % 18446744073709551616 : Nat) : Int))) by unfold candR; rw [← hbt]; first | rfl | (simp [IntKind.wrap_i64, wrap64]; done))
                have HCR := Lib.hid (candR_range j true n ds)
                have HNO := Lib.hid (show ∀ y : Int, -9223372036854775808 ≤ y → y ≤ 9223372036854775807 → (⟨(textB y j).toArray⟩ : ByteArray) = ⟨(45 :: d).toArray⟩ → candR j true n ds = y from fun y y0 y1 h => by
                  have e := HX.out y h
                  have h8 := Nat.div_le_self y.natAbs (2 ^ j)
                  have h9 := value_digs (y.natAbs / 2 ^ j) (by omega)
                  rw [← e.2.1, HV2.out] at h9
                  have h10 : n = y.natAbs / 2 ^ j := congrArg Prod.fst h9
                  rw [HDS.out y h, h10, e.1]
                  exact candR_text y j hk y0 y1)
                rw [HC.out] at HNO HCR
                obtain ⟨r, hr⟩ : ∃ r : Nat, r = x % 18446744073709551616 := ⟨_, rfl⟩
                rw [← hr] at HNO HCR ⊢
                clear hbt HBT HC hr
                go_wp2_with fail
                generalize wrap64 (IntKind.u64.wrap (-(r : Int))) = c at *
                refine (refText_any c j HCR.out.1 HCR.out.2 _).mono ?_
                rintro e w5 ⟨rfl, b5⟩
                have B5 := Lib.hid (HB.out.trans (b5.mono HB.out.size))
                clear b5
                by_cases hq : textB c j = (45 :: d)
                · have hqb : (textB c j == (45 :: d)) = true := by simpa using hq
                  have HQ := Lib.hid hq
                  clear hq
                  go_wp2_with fail
                  exact bodyPost_ret (v := .tuple #[.int .i64 c, .bool true]) (by simp [results, Tryd.results12, go_sem]) rfl ⟨⟨c, true, rfl, .inl ⟨rfl, HIN.out, HCR.out, by rw [HQ.out]⟩⟩, B5.out⟩
                · have hqb : (textB c j == (45 :: d)) = false := by simpa using hq
                  have HQ := Lib.hid hq
                  clear hq
                  go_wp2_with fail
                  exact bodyPost_ret (v := .tuple #[.int .i64 0, .bool false]) (by simp [results, Tryd.results12, go_sem]) rfl ⟨⟨0, false, rfl, .inr ⟨rfl, rfl, fun y y0 y1 _ h => HQ.out (by rw [HNO.out y y0 y1 h]; exact list_of_bytes h)⟩⟩, B5.out⟩

set_option maxHeartbeats 4000000 in
theorem refParse_pos0 (d : List UInt8) (k : Nat) (hk : k ≤ 62) (hl : d.length ≤ 100) (hh : d.head? ≠ some 45) (hz : d.length = 0) (w : World) : Calls Tryd.prog 12 #[.string ⟨d.toArray⟩, .int .i64 k] w fun e w' => (∃ x ok, e = .returned (.tuple #[.int .i64 x, .bool ok]) ∧ ParseIs ⟨d.toArray⟩ k x ok) ∧ Below w.heap.size w w' := by
  have hk0 : ¬ (k : Int) < 0 := by omega
  have hk2 : ¬ 62 < (k : Int) := by omega
  have hin : inQ (k : Int) = true := by unfold inQ; simp; omega
  have HIN := Lib.hid hin
  have et : ∀ z : Int, textB z (k : Int) = textL z k := fun z => by unfold textB; rw [if_pos (by omega), Int.toNat_natCast]
  have HX : Hid (∀ y : Int, (⟨(textB y k).toArray⟩ : ByteArray) = ⟨d.toArray⟩ → false = decide (y < 0) ∧ d.take (pointAt d) = (digsN (y.natAbs / 2 ^ k)).map digB ∧ (pointAt d < d.length → d.drop (pointAt d + 1) = (fracL k (y.natAbs % 2 ^ k)).map digB ∧ y.natAbs % 2 ^ k ≠ 0) ∧ (¬ pointAt d < d.length → y.natAbs % 2 ^ k = 0)) := Lib.hid (fun y h => ref_text y k d d false (.inr ⟨rfl, rfl, hh⟩) (by
    rw [et] at h
    have h3 := congrArg ByteArray.data h
    have h4 := congrArg Array.toList h3
    simpa using h4))
  have hle := pointAt_le d
  have HBE := Lib.hid (pointAt_before d)
  have HIS := Lib.hid (pointAt_is d)
  have hTl : (d.take (pointAt d)).length ≤ 100 := by rw [List.length_take]; omega
  have hdl : d.length ≤ 100 := by omega
  have HVA := Lib.hid (fun W => value_any (d.take (pointAt d)) hTl W)
  have HDA := Lib.hid (fun W => digits_any (d.take (pointAt d)) (by omega) W)
  have eT : (⟨d.toArray⟩ : ByteArray).extract 0 (pointAt d) = ⟨(d.take (pointAt d)).toArray⟩ := by rw [extract_list, List.drop_zero, Nat.sub_zero]
  have eP : (⟨d.toArray⟩ : ByteArray).extract (pointAt d + 1) d.length = ⟨(d.drop (pointAt d + 1)).toArray⟩ := by rw [extract_list, List.take_of_length_le (by rw [List.length_drop]; exact Nat.le_refl _)]
  have ET := Lib.hid eT
  have EP := Lib.hid eP
  
  
  have hli : ¬ 100 < (d.length : Int) := by omega
  have hzi : ¬ 0 < (d.length : Int) := by omega
  clear hin et eT eP

  go_enter Tryd.func12, Tryd.ntmps12
  go_wp2_with fail
  go_loopw [7] (fun i wr => ∃ j : Nat, j ≤ pointAt d ∧ i = .int .i64 j ∧ w = wr) (fun i _ => pointAt d - (intOf i).toNat)
  case atStart => exact ⟨0, by omega, rfl, rfl⟩
  case round =>
    obtain ⟨j, hj, rfl, rfl⟩ := hrel
    by_cases hlt : j < pointAt d
    · exfalso; omega
    · obtain rfl : j = pointAt d := by omega
      have hpi : (pointAt d : Int) ≤ (d.length : Int) := by omega
      by_cases hA : pointAt d < d.length
      · exfalso; omega
      · have hAi : ¬ (pointAt d : Int) < (d.length : Int) := by omega
        generalize pointAt d = A at *
        have HAH := Lib.hid hA
        generalize d.take A = T at *
        obtain ⟨n, okv, hv⟩ : ∃ n okv, valueGo 0 T = (n, okv) := ⟨_, _, rfl⟩
        have hn : n ≤ 10000000000000000255 := by have h := valueGo_le 0 T (by omega); rw [hv] at h; exact h
        have HV2 := Lib.hid hv
        have HVA2 := Lib.hid (fun W => by have h := HVA.out W; rw [hv] at h; exact h)
        clear hv HVA
        go_wp2_with fail
        rw [ET.out]
        refine (HVA2.out _).mono ?_
        rintro e w1 ⟨rfl, rfl⟩
        go_wp2_with fail
        rw [ET.out]
        refine (HDA.out _).mono ?_
        rintro e w2 ⟨rfl, rfl⟩
        cases hdT : digitsF T with
        | false =>
          have HT0 := Lib.hid hdT
          clear hdT
          go_wp2_with fail
          exact bodyPost_ret (v := .tuple #[.int .i64 0, .bool false]) (by simp [results, Tryd.results12, go_sem]) rfl ⟨⟨0, false, rfl, .inr ⟨rfl, rfl, fun y y0 y1 _ h => by have e := (HX.out y h).2.1; have h9 := digitsF_digits _ (digsN_lt (y.natAbs / 2 ^ k)) (digsN_ne _); rw [← e, HT0.out] at h9; cases h9⟩⟩, Below.refl _ _⟩
        | true =>
          clear hdT
          cases okv with
          | false =>
            go_wp2_with fail
            exact bodyPost_ret (v := .tuple #[.int .i64 0, .bool false]) (by simp [results, Tryd.results12, go_sem]) rfl ⟨⟨0, false, rfl, .inr ⟨rfl, rfl, fun y y0 y1 _ h => by have e := (HX.out y h).2.1; have h8 := Nat.div_le_self y.natAbs (2 ^ k); have h9 := value_digs (y.natAbs / 2 ^ k) (by omega); rw [← e, HV2.out] at h9; exact absurd (congrArg Prod.snd h9) (fun h => by cases h)⟩⟩, Below.refl _ _⟩
          | true =>
            go_wp2_with fail
            obtain ⟨ds, hds0⟩ : ∃ ds : List Nat, ds = [] := ⟨_, rfl⟩
            have hds : ∀ x ∈ ds, x < 10 := by rw [hds0]; simp
            have HDS := Lib.hid (show ∀ y : Int, (⟨(textB y k).toArray⟩ : ByteArray) = ⟨d.toArray⟩ → ds = fracL k (y.natAbs % 2 ^ k) from fun y h => by rw [(HX.out y h).2.2.2 HAH.out, fracL_zero]; exact hds0)
            have hds100 : ds.length ≤ 100 := by rw [hds0]; simp
            rw [show (⟨#[]⟩ : ByteArray) = ⟨(ds.map digB).toArray⟩ by rw [hds0]; rfl]
            clear hds0
            go_loopw [8, 10, 11] (fun nv pv iv wr2 => ∃ (j x : Nat) (es : List Nat), j ≤ k ∧ (∀ z ∈ es, z < 10) ∧ es.length ≤ 100 ∧ Hid (bitsD (k - j) x es = bitsD k n ds) ∧ nv = .int .u64 ((x % 18446744073709551616 : Nat) : Int) ∧ pv = .string ⟨(es.map digB).toArray⟩ ∧ iv = .int .i64 j ∧ Below w.heap.size w wr2) (fun _ _ iv _ => k - (intOf iv).toNat)
            case atStart => exact ⟨0, n, ds, by omega, hds, hds100, Lib.hid rfl, by congr 2; omega, rfl, rfl, Below.refl _ _⟩
            case round =>
              obtain ⟨j, x, es, hj, hes, hesl, HBT, rfl, rfl, rfl, hB⟩ := hrel
              have HB := Lib.hid hB
              clear hB
              by_cases hjk : j < k
              · have hjki : (j : Int) < (k : Int) := by omega
                have hcar := dblD_carry es hes
                have HDB := Lib.hid (fun W => doubled_any es hes (by omega) W)
                have HBS := Lib.hid (show bitsD (k - (j + 1)) (2 * x + (dblD es).1) (dblD es).2 = bitsD k n ds by rw [← HBT.out, show k - j = (k - (j + 1)) + 1 by omega, bitsD])
                have H10 := Lib.hid (dblD_digit es)
                have HL2 := Lib.hid (show (dblD es).2.length ≤ 100 by rw [dblD_length]; exact hesl)
                clear HBT
                generalize (dblD es).1 = cr at *
                generalize (dblD es).2 = fs at *
                go_wp2_with fail
                refine (HDB.out _).mono ?_
                rintro e w4 ⟨rfl, rfl⟩
                go_wp2_with fail
                refine ⟨⟨j + 1, 2 * x + cr, fs, by omega, H10.out, HL2.out, HBS, ?_, rfl, rfl, HB.out⟩, ?_⟩
                · congr 1
                  rw [IntKind.wrap_u64]
                  try rw [IntKind.wrap_u64]
                  omega
                · show k - ((j : Int) + 1).toNat < k - ((j : Int)).toNat
                  omega
              · obtain rfl : j = k := by omega
                have hjki : ¬ (j : Int) < (j : Int) := by omega
                have hbt := HBT.out
                rw [Nat.sub_self, bitsD] at hbt
                have HC := Lib.hid (show candR j false n ds = wrap64 ((x % 18446744073709551616 : Nat) : Int) by unfold candR; rw [← hbt]; first | rfl | (simp [IntKind.wrap_i64, wrap64]; done))
                have HCR := Lib.hid (candR_range j false n ds)
                have HNO := Lib.hid (show ∀ y : Int, -9223372036854775808 ≤ y → y ≤ 9223372036854775807 → (⟨(textB y j).toArray⟩ : ByteArray) = ⟨d.toArray⟩ → candR j false n ds = y from fun y y0 y1 h => by
                  have e := HX.out y h
                  have h8 := Nat.div_le_self y.natAbs (2 ^ j)
                  have h9 := value_digs (y.natAbs / 2 ^ j) (by omega)
                  rw [← e.2.1, HV2.out] at h9
                  have h10 : n = y.natAbs / 2 ^ j := congrArg Prod.fst h9
                  rw [HDS.out y h, h10, e.1]
                  exact candR_text y j hk y0 y1)
                rw [HC.out] at HNO HCR
                obtain ⟨r, hr⟩ : ∃ r : Nat, r = x % 18446744073709551616 := ⟨_, rfl⟩
                rw [← hr] at HNO HCR ⊢
                clear hbt HBT HC hr
                go_wp2_with fail
                generalize wrap64 (r : Int) = c at *
                refine (refText_any c j HCR.out.1 HCR.out.2 _).mono ?_
                rintro e w5 ⟨rfl, b5⟩
                have B5 := Lib.hid (HB.out.trans (b5.mono HB.out.size))
                clear b5
                by_cases hq : textB c j = d
                · have hqb : (textB c j == d) = true := by simpa using hq
                  have HQ := Lib.hid hq
                  clear hq
                  go_wp2_with fail
                  exact bodyPost_ret (v := .tuple #[.int .i64 c, .bool true]) (by simp [results, Tryd.results12, go_sem]) rfl ⟨⟨c, true, rfl, .inl ⟨rfl, HIN.out, HCR.out, by rw [HQ.out]⟩⟩, B5.out⟩
                · have hqb : (textB c j == d) = false := by simpa using hq
                  have HQ := Lib.hid hq
                  clear hq
                  go_wp2_with fail
                  exact bodyPost_ret (v := .tuple #[.int .i64 0, .bool false]) (by simp [results, Tryd.results12, go_sem]) rfl ⟨⟨0, false, rfl, .inr ⟨rfl, rfl, fun y y0 y1 _ h => HQ.out (by rw [HNO.out y y0 y1 h]; exact list_of_bytes h)⟩⟩, B5.out⟩

set_option maxHeartbeats 4000000 in
theorem refParse_pos1 (d : List UInt8) (k : Nat) (hk : k ≤ 62) (hl : d.length ≤ 100) (hh : d.head? ≠ some 45) (b : UInt8) (hb0 : d[0]? = some b) (hb45 : b ≠ 45) (w : World) : Calls Tryd.prog 12 #[.string ⟨d.toArray⟩, .int .i64 k] w fun e w' => (∃ x ok, e = .returned (.tuple #[.int .i64 x, .bool ok]) ∧ ParseIs ⟨d.toArray⟩ k x ok) ∧ Below w.heap.size w w' := by
  have hk0 : ¬ (k : Int) < 0 := by omega
  have hk2 : ¬ 62 < (k : Int) := by omega
  have hin : inQ (k : Int) = true := by unfold inQ; simp; omega
  have HIN := Lib.hid hin
  have et : ∀ z : Int, textB z (k : Int) = textL z k := fun z => by unfold textB; rw [if_pos (by omega), Int.toNat_natCast]
  have HX : Hid (∀ y : Int, (⟨(textB y k).toArray⟩ : ByteArray) = ⟨d.toArray⟩ → false = decide (y < 0) ∧ d.take (pointAt d) = (digsN (y.natAbs / 2 ^ k)).map digB ∧ (pointAt d < d.length → d.drop (pointAt d + 1) = (fracL k (y.natAbs % 2 ^ k)).map digB ∧ y.natAbs % 2 ^ k ≠ 0) ∧ (¬ pointAt d < d.length → y.natAbs % 2 ^ k = 0)) := Lib.hid (fun y h => ref_text y k d d false (.inr ⟨rfl, rfl, hh⟩) (by
    rw [et] at h
    have h3 := congrArg ByteArray.data h
    have h4 := congrArg Array.toList h3
    simpa using h4))
  have hle := pointAt_le d
  have HBE := Lib.hid (pointAt_before d)
  have HIS := Lib.hid (pointAt_is d)
  have hTl : (d.take (pointAt d)).length ≤ 100 := by rw [List.length_take]; omega
  have hdl : d.length ≤ 100 := by omega
  have HVA := Lib.hid (fun W => value_any (d.take (pointAt d)) hTl W)
  have HDA := Lib.hid (fun W => digits_any (d.take (pointAt d)) (by omega) W)
  have eT : (⟨d.toArray⟩ : ByteArray).extract 0 (pointAt d) = ⟨(d.take (pointAt d)).toArray⟩ := by rw [extract_list, List.drop_zero, Nat.sub_zero]
  have eP : (⟨d.toArray⟩ : ByteArray).extract (pointAt d + 1) d.length = ⟨(d.drop (pointAt d + 1)).toArray⟩ := by rw [extract_list, List.take_of_length_le (by rw [List.length_drop]; exact Nat.le_refl _)]
  have ET := Lib.hid eT
  have EP := Lib.hid eP
  
  
  have hli : ¬ 100 < (d.length : Int) := by omega
  have i0 : ∀ wx : World, (Instr.index 9 (.string ⟨d.toArray⟩) (.int .i64 0)).run Tryd.prog wx = .ok (.int .u8 (b.toNat : Int)) wx := fun wx => idx_any d 0 b hb0 wx
  have hpos : 0 < d.length := by rcases Nat.lt_or_ge 0 d.length with h | h; exact h; rw [List.getElem?_eq_none h] at hb0; cases hb0
  have hzi : 0 < (d.length : Int) := by omega
  have hbn : ¬ b.toNat = 45 := fun e => hb45 (UInt8.toNat_inj.1 e)
  have hbi : ¬ (b.toNat : Int) = 45 := by omega
  clear hb0
  clear hin et eT eP

  go_enter Tryd.func12, Tryd.ntmps12
  go_wp2_with fail
  go_loopw [7] (fun i wr => ∃ j : Nat, j ≤ pointAt d ∧ i = .int .i64 j ∧ w = wr) (fun i _ => pointAt d - (intOf i).toNat)
  case atStart => exact ⟨0, by omega, rfl, rfl⟩
  case round =>
    obtain ⟨j, hj, rfl, rfl⟩ := hrel
    by_cases hlt : j < pointAt d
    · have hjd : j < d.length := by omega
      have hidx := fun wx => idx_any d j d[j] (List.getElem?_eq_getElem hjd) wx
      have hb := HBE.out j hlt hjd
      have hlti : (j : Int) < (d.length : Int) := by omega
      generalize d[j] = b at *
      have hbn : ¬ b.toNat = 46 := fun e => hb (UInt8.toNat_inj.1 e)
      have hbi : ¬ (b.toNat : Int) = 46 := by omega
      clear hb
      go_wp2_with fail
      refine ⟨⟨j + 1, by omega, rfl, trivial⟩, ?_⟩
      show pointAt d - ((j : Int) + 1).toNat < pointAt d - ((j : Int)).toNat
      omega
    · obtain rfl : j = pointAt d := by omega
      have hpi : (pointAt d : Int) ≤ (d.length : Int) := by omega
      by_cases hA : pointAt d < d.length
      · have hidx := fun wx => idx_any d (pointAt d) d[pointAt d] (List.getElem?_eq_getElem hA) wx
        rw [HIS.out hA] at hidx
        have hAi : (pointAt d : Int) < (d.length : Int) := by omega
        have hA1 : (pointAt d : Int) + 1 ≤ (d.length : Int) := by omega
        generalize pointAt d = A at *
        have HAH := Lib.hid hA
        generalize d.take A = T at *
        obtain ⟨n, okv, hv⟩ : ∃ n okv, valueGo 0 T = (n, okv) := ⟨_, _, rfl⟩
        have hn : n ≤ 10000000000000000255 := by have h := valueGo_le 0 T (by omega); rw [hv] at h; exact h
        have HV2 := Lib.hid hv
        have HVA2 := Lib.hid (fun W => by have h := HVA.out W; rw [hv] at h; exact h)
        clear hv HVA
        have HPl : (d.drop (A + 1)).length ≤ 100 := by rw [List.length_drop]; omega
        have HDP := Lib.hid (fun W => digits_any (d.drop (A + 1)) (by omega) W)
        generalize d.drop (A + 1) = Q at *
        go_wp2_with fail
        rw [ET.out]
        refine (HVA2.out _).mono ?_
        rintro e w1 ⟨rfl, rfl⟩
        go_wp2_with fail
        rw [ET.out]
        try rw [EP.out]
        refine (HDA.out _).mono ?_
        rintro e w2 ⟨rfl, rfl⟩
        cases hdT : digitsF T with
        | false =>
          have HT0 := Lib.hid hdT
          clear hdT
          go_wp2_with fail
          exact bodyPost_ret (v := .tuple #[.int .i64 0, .bool false]) (by simp [results, Tryd.results12, go_sem]) rfl ⟨⟨0, false, rfl, .inr ⟨rfl, rfl, fun y y0 y1 _ h => by have e := (HX.out y h).2.1; have h9 := digitsF_digits _ (digsN_lt (y.natAbs / 2 ^ k)) (digsN_ne _); rw [← e, HT0.out] at h9; cases h9⟩⟩, Below.refl _ _⟩
        | true =>
          clear hdT
          cases okv with
          | false =>
            go_wp2_with fail
            exact bodyPost_ret (v := .tuple #[.int .i64 0, .bool false]) (by simp [results, Tryd.results12, go_sem]) rfl ⟨⟨0, false, rfl, .inr ⟨rfl, rfl, fun y y0 y1 _ h => by have e := (HX.out y h).2.1; have h8 := Nat.div_le_self y.natAbs (2 ^ k); have h9 := value_digs (y.natAbs / 2 ^ k) (by omega); rw [← e, HV2.out] at h9; exact absurd (congrArg Prod.snd h9) (fun h => by cases h)⟩⟩, Below.refl _ _⟩
          | true =>
            go_wp2_with fail
            refine (HDP.out _).mono ?_
            rintro e w3 ⟨rfl, rfl⟩
            cases hdQ : digitsF Q with
            | false =>
              have HQ0 := Lib.hid hdQ
              clear hdQ
              go_wp2_with fail
              exact bodyPost_ret (v := .tuple #[.int .i64 0, .bool false]) (by simp [results, Tryd.results12, go_sem]) rfl ⟨⟨0, false, rfl, .inr ⟨rfl, rfl, fun y y0 y1 _ h => by have e := (HX.out y h).2.2.1 HAH.out; have h9 := digitsF_digits _ (fracL_digit (Nat.mod_lt y.natAbs (pow_pos2 k))) (fracL_ne (by omega) e.2); rw [← e.1, HQ0.out] at h9; cases h9⟩⟩, Below.refl _ _⟩
            | true =>
              have hall : Q.all digB? = true := by unfold digitsF at hdQ; rw [Bool.and_eq_true] at hdQ; exact hdQ.1
              obtain ⟨ds, hds, rfl, hdsl⟩ := digits_of Q hall
              clear hdQ hall
              have HDS := Lib.hid (show ∀ y : Int, (⟨(textB y k).toArray⟩ : ByteArray) = ⟨d.toArray⟩ → ds = fracL k (y.natAbs % 2 ^ k) from fun y h => map_digB_inj hds (fracL_digit (Nat.mod_lt _ (pow_pos2 k))) ((HX.out y h).2.2.1 HAH.out).1)
              have hds100 : ds.length ≤ 100 := by omega
              go_wp2_with fail
              go_loopw [8, 10, 11] (fun nv pv iv wr2 => ∃ (j x : Nat) (es : List Nat), j ≤ k ∧ (∀ z ∈ es, z < 10) ∧ es.length ≤ 100 ∧ Hid (bitsD (k - j) x es = bitsD k n ds) ∧ nv = .int .u64 ((x % 18446744073709551616 : Nat) : Int) ∧ pv = .string ⟨(es.map digB).toArray⟩ ∧ iv = .int .i64 j ∧ Below w.heap.size w wr2) (fun _ _ iv _ => k - (intOf iv).toNat)
              case atStart => exact ⟨0, n, ds, by omega, hds, hds100, Lib.hid rfl, by congr 2; omega, rfl, rfl, Below.refl _ _⟩
              case round =>
                obtain ⟨j, x, es, hj, hes, hesl, HBT, rfl, rfl, rfl, hB⟩ := hrel
                have HB := Lib.hid hB
                clear hB
                by_cases hjk : j < k
                · have hjki : (j : Int) < (k : Int) := by omega
                  have hcar := dblD_carry es hes
                  have HDB := Lib.hid (fun W => doubled_any es hes (by omega) W)
                  have HBS := Lib.hid (show bitsD (k - (j + 1)) (2 * x + (dblD es).1) (dblD es).2 = bitsD k n ds by rw [← HBT.out, show k - j = (k - (j + 1)) + 1 by omega, bitsD])
                  have H10 := Lib.hid (dblD_digit es)
                  have HL2 := Lib.hid (show (dblD es).2.length ≤ 100 by rw [dblD_length]; exact hesl)
                  clear HBT
                  generalize (dblD es).1 = cr at *
                  generalize (dblD es).2 = fs at *
                  go_wp2_with fail
                  refine (HDB.out _).mono ?_
                  rintro e w4 ⟨rfl, rfl⟩
                  go_wp2_with fail
                  refine ⟨⟨j + 1, 2 * x + cr, fs, by omega, H10.out, HL2.out, HBS, ?_, rfl, rfl, HB.out⟩, ?_⟩
                  · congr 1
                    rw [IntKind.wrap_u64]
                    try rw [IntKind.wrap_u64]
                    omega
                  · show k - ((j : Int) + 1).toNat < k - ((j : Int)).toNat
                    omega
                · obtain rfl : j = k := by omega
                  have hjki : ¬ (j : Int) < (j : Int) := by omega
                  have hbt := HBT.out
                  rw [Nat.sub_self, bitsD] at hbt
                  have HC := Lib.hid (show candR j false n ds = wrap64 ((x % 18446744073709551616 : Nat) : Int) by unfold candR; rw [← hbt]; first | rfl | (simp [IntKind.wrap_i64, wrap64]; done))
                  have HCR := Lib.hid (candR_range j false n ds)
                  have HNO := Lib.hid (show ∀ y : Int, -9223372036854775808 ≤ y → y ≤ 9223372036854775807 → (⟨(textB y j).toArray⟩ : ByteArray) = ⟨d.toArray⟩ → candR j false n ds = y from fun y y0 y1 h => by
                    have e := HX.out y h
                    have h8 := Nat.div_le_self y.natAbs (2 ^ j)
                    have h9 := value_digs (y.natAbs / 2 ^ j) (by omega)
                    rw [← e.2.1, HV2.out] at h9
                    have h10 : n = y.natAbs / 2 ^ j := congrArg Prod.fst h9
                    rw [HDS.out y h, h10, e.1]
                    exact candR_text y j hk y0 y1)
                  rw [HC.out] at HNO HCR
                  obtain ⟨r, hr⟩ : ∃ r : Nat, r = x % 18446744073709551616 := ⟨_, rfl⟩
                  rw [← hr] at HNO HCR ⊢
                  clear hbt HBT HC hr
                  go_wp2_with fail
                  generalize wrap64 (r : Int) = c at *
                  refine (refText_any c j HCR.out.1 HCR.out.2 _).mono ?_
                  rintro e w5 ⟨rfl, b5⟩
                  have B5 := Lib.hid (HB.out.trans (b5.mono HB.out.size))
                  clear b5
                  by_cases hq : textB c j = d
                  · have hqb : (textB c j == d) = true := by simpa using hq
                    have HQ := Lib.hid hq
                    clear hq
                    go_wp2_with fail
                    exact bodyPost_ret (v := .tuple #[.int .i64 c, .bool true]) (by simp [results, Tryd.results12, go_sem]) rfl ⟨⟨c, true, rfl, .inl ⟨rfl, HIN.out, HCR.out, by rw [HQ.out]⟩⟩, B5.out⟩
                  · have hqb : (textB c j == d) = false := by simpa using hq
                    have HQ := Lib.hid hq
                    clear hq
                    go_wp2_with fail
                    exact bodyPost_ret (v := .tuple #[.int .i64 0, .bool false]) (by simp [results, Tryd.results12, go_sem]) rfl ⟨⟨0, false, rfl, .inr ⟨rfl, rfl, fun y y0 y1 _ h => HQ.out (by rw [HNO.out y y0 y1 h]; exact list_of_bytes h)⟩⟩, B5.out⟩
      · have hAi : ¬ (pointAt d : Int) < (d.length : Int) := by omega
        generalize pointAt d = A at *
        have HAH := Lib.hid hA
        generalize d.take A = T at *
        obtain ⟨n, okv, hv⟩ : ∃ n okv, valueGo 0 T = (n, okv) := ⟨_, _, rfl⟩
        have hn : n ≤ 10000000000000000255 := by have h := valueGo_le 0 T (by omega); rw [hv] at h; exact h
        have HV2 := Lib.hid hv
        have HVA2 := Lib.hid (fun W => by have h := HVA.out W; rw [hv] at h; exact h)
        clear hv HVA
        go_wp2_with fail
        rw [ET.out]
        refine (HVA2.out _).mono ?_
        rintro e w1 ⟨rfl, rfl⟩
        go_wp2_with fail
        rw [ET.out]
        refine (HDA.out _).mono ?_
        rintro e w2 ⟨rfl, rfl⟩
        cases hdT : digitsF T with
        | false =>
          have HT0 := Lib.hid hdT
          clear hdT
          go_wp2_with fail
          exact bodyPost_ret (v := .tuple #[.int .i64 0, .bool false]) (by simp [results, Tryd.results12, go_sem]) rfl ⟨⟨0, false, rfl, .inr ⟨rfl, rfl, fun y y0 y1 _ h => by have e := (HX.out y h).2.1; have h9 := digitsF_digits _ (digsN_lt (y.natAbs / 2 ^ k)) (digsN_ne _); rw [← e, HT0.out] at h9; cases h9⟩⟩, Below.refl _ _⟩
        | true =>
          clear hdT
          cases okv with
          | false =>
            go_wp2_with fail
            exact bodyPost_ret (v := .tuple #[.int .i64 0, .bool false]) (by simp [results, Tryd.results12, go_sem]) rfl ⟨⟨0, false, rfl, .inr ⟨rfl, rfl, fun y y0 y1 _ h => by have e := (HX.out y h).2.1; have h8 := Nat.div_le_self y.natAbs (2 ^ k); have h9 := value_digs (y.natAbs / 2 ^ k) (by omega); rw [← e, HV2.out] at h9; exact absurd (congrArg Prod.snd h9) (fun h => by cases h)⟩⟩, Below.refl _ _⟩
          | true =>
            go_wp2_with fail
            obtain ⟨ds, hds0⟩ : ∃ ds : List Nat, ds = [] := ⟨_, rfl⟩
            have hds : ∀ x ∈ ds, x < 10 := by rw [hds0]; simp
            have HDS := Lib.hid (show ∀ y : Int, (⟨(textB y k).toArray⟩ : ByteArray) = ⟨d.toArray⟩ → ds = fracL k (y.natAbs % 2 ^ k) from fun y h => by rw [(HX.out y h).2.2.2 HAH.out, fracL_zero]; exact hds0)
            have hds100 : ds.length ≤ 100 := by rw [hds0]; simp
            rw [show (⟨#[]⟩ : ByteArray) = ⟨(ds.map digB).toArray⟩ by rw [hds0]; rfl]
            clear hds0
            go_loopw [8, 10, 11] (fun nv pv iv wr2 => ∃ (j x : Nat) (es : List Nat), j ≤ k ∧ (∀ z ∈ es, z < 10) ∧ es.length ≤ 100 ∧ Hid (bitsD (k - j) x es = bitsD k n ds) ∧ nv = .int .u64 ((x % 18446744073709551616 : Nat) : Int) ∧ pv = .string ⟨(es.map digB).toArray⟩ ∧ iv = .int .i64 j ∧ Below w.heap.size w wr2) (fun _ _ iv _ => k - (intOf iv).toNat)
            case atStart => exact ⟨0, n, ds, by omega, hds, hds100, Lib.hid rfl, by congr 2; omega, rfl, rfl, Below.refl _ _⟩
            case round =>
              obtain ⟨j, x, es, hj, hes, hesl, HBT, rfl, rfl, rfl, hB⟩ := hrel
              have HB := Lib.hid hB
              clear hB
              by_cases hjk : j < k
              · have hjki : (j : Int) < (k : Int) := by omega
                have hcar := dblD_carry es hes
                have HDB := Lib.hid (fun W => doubled_any es hes (by omega) W)
                have HBS := Lib.hid (show bitsD (k - (j + 1)) (2 * x + (dblD es).1) (dblD es).2 = bitsD k n ds by rw [← HBT.out, show k - j = (k - (j + 1)) + 1 by omega, bitsD])
                have H10 := Lib.hid (dblD_digit es)
                have HL2 := Lib.hid (show (dblD es).2.length ≤ 100 by rw [dblD_length]; exact hesl)
                clear HBT
                generalize (dblD es).1 = cr at *
                generalize (dblD es).2 = fs at *
                go_wp2_with fail
                refine (HDB.out _).mono ?_
                rintro e w4 ⟨rfl, rfl⟩
                go_wp2_with fail
                refine ⟨⟨j + 1, 2 * x + cr, fs, by omega, H10.out, HL2.out, HBS, ?_, rfl, rfl, HB.out⟩, ?_⟩
                · congr 1
                  rw [IntKind.wrap_u64]
                  try rw [IntKind.wrap_u64]
                  omega
                · show k - ((j : Int) + 1).toNat < k - ((j : Int)).toNat
                  omega
              · obtain rfl : j = k := by omega
                have hjki : ¬ (j : Int) < (j : Int) := by omega
                have hbt := HBT.out
                rw [Nat.sub_self, bitsD] at hbt
                have HC := Lib.hid (show candR j false n ds = wrap64 ((x % 18446744073709551616 : Nat) : Int) by unfold candR; rw [← hbt]; first | rfl | (simp [IntKind.wrap_i64, wrap64]; done))
                have HCR := Lib.hid (candR_range j false n ds)
                have HNO := Lib.hid (show ∀ y : Int, -9223372036854775808 ≤ y → y ≤ 9223372036854775807 → (⟨(textB y j).toArray⟩ : ByteArray) = ⟨d.toArray⟩ → candR j false n ds = y from fun y y0 y1 h => by
                  have e := HX.out y h
                  have h8 := Nat.div_le_self y.natAbs (2 ^ j)
                  have h9 := value_digs (y.natAbs / 2 ^ j) (by omega)
                  rw [← e.2.1, HV2.out] at h9
                  have h10 : n = y.natAbs / 2 ^ j := congrArg Prod.fst h9
                  rw [HDS.out y h, h10, e.1]
                  exact candR_text y j hk y0 y1)
                rw [HC.out] at HNO HCR
                obtain ⟨r, hr⟩ : ∃ r : Nat, r = x % 18446744073709551616 := ⟨_, rfl⟩
                rw [← hr] at HNO HCR ⊢
                clear hbt HBT HC hr
                go_wp2_with fail
                generalize wrap64 (r : Int) = c at *
                refine (refText_any c j HCR.out.1 HCR.out.2 _).mono ?_
                rintro e w5 ⟨rfl, b5⟩
                have B5 := Lib.hid (HB.out.trans (b5.mono HB.out.size))
                clear b5
                by_cases hq : textB c j = d
                · have hqb : (textB c j == d) = true := by simpa using hq
                  have HQ := Lib.hid hq
                  clear hq
                  go_wp2_with fail
                  exact bodyPost_ret (v := .tuple #[.int .i64 c, .bool true]) (by simp [results, Tryd.results12, go_sem]) rfl ⟨⟨c, true, rfl, .inl ⟨rfl, HIN.out, HCR.out, by rw [HQ.out]⟩⟩, B5.out⟩
                · have hqb : (textB c j == d) = false := by simpa using hq
                  have HQ := Lib.hid hq
                  clear hq
                  go_wp2_with fail
                  exact bodyPost_ret (v := .tuple #[.int .i64 0, .bool false]) (by simp [results, Tryd.results12, go_sem]) rfl ⟨⟨0, false, rfl, .inr ⟨rfl, rfl, fun y y0 y1 _ h => HQ.out (by rw [HNO.out y y0 y1 h]; exact list_of_bytes h)⟩⟩, B5.out⟩

theorem refParse_any (l : List UInt8) (q : Int) (w : World) : Calls Tryd.prog 12 #[.string ⟨l.toArray⟩, .int .i64 q] w fun e w' => (∃ x ok, e = .returned (.tuple #[.int .i64 x, .bool ok]) ∧ ParseIs ⟨l.toArray⟩ q x ok) ∧ Below w.heap.size w w' := by
  cases hq : inQ q
  · exact (refParse_out l q (.inl hq) w).mono fun e w' ⟨he, hw⟩ => ⟨⟨0, false, he, .inr ⟨rfl, rfl, fun y _ _ h => by rw [hq] at h; cases h⟩⟩, by rw [← hw]; exact Below.refl _ _⟩
  · obtain ⟨k, rfl, hk⟩ := inQ_nat hq
    by_cases hl : l.length ≤ 100
    · cases l with
      | nil => exact refParse_pos0 [] k hk hl (by simp) rfl w
      | cons b t =>
        by_cases hb : b = 45
        · subst hb; exact refParse_neg t k hk hl w
        · exact refParse_pos1 (b :: t) k hk hl (by simpa using hb) b rfl hb w
    · refine (refParse_out l k (.inr ⟨hq, by omega⟩) w).mono fun e w' ⟨he, hw⟩ => ⟨⟨0, false, he, .inr ⟨rfl, rfl, fun y y0 y1 _ h => ?_⟩⟩, by rw [← hw]; exact Below.refl _ _⟩
      have et : textB y (k : Int) = textL y k := by unfold textB; rw [if_pos (by omega), Int.toNat_natCast]
      have h2 := list_of_bytes h
      have h3 := textL_short y k hk y0 y1
      rw [← et, h2] at h3
      omega
end Go.Proofs.YtdpcpfapleehmaaDoor
