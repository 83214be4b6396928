/- Layer 2: Number, Natural, the reference's Number. -/
import Derived.Test.YtdpcpfapleehmaaDoorDecH
namespace Go.Proofs.YtdpcpfapleehmaaDoor
open Go.RowKit
set_option linter.unusedVariables false
set_option maxHeartbeats 2000000 in
theorem value_any2 (l : List UInt8) (hl : l.length ≤ 1000) (w : World) : Calls Tryd.prog 29 #[.string ⟨l.toArray⟩] w fun e w' => e = .returned (.tuple #[.int .u64 ((valueGo 0 l).1 : Int), .bool (valueGo 0 l).2]) ∧ w = w' := by
  go_enter Tryd.func29, Tryd.ntmps29
  go_wp2_with fail
  go_loopw [4, 5] (fun nv i wr => ∃ (k n : Nat), k ≤ l.length ∧ n ≤ 10000000000000000255 ∧ Hid (valueGo 0 l = valueGo n (l.drop k)) ∧ nv = .int .u64 n ∧ i = .int .i64 k ∧ w = wr) (fun _ i _ => l.length - (intOf i).toNat)
  case atStart => exact ⟨0, 0, by omega, by omega, Lib.hid rfl, rfl, rfl, rfl⟩
  case round =>
    obtain ⟨k, n, hk, hn, HV, rfl, rfl, rfl⟩ := hrel
    by_cases hlt : k < l.length
    · have hlti : (k : Int) < (l.length : Int) := by omega
      have hdr : l.drop k = l[k] :: l.drop (k + 1) := List.drop_eq_getElem_cons hlt
      have hidx := fun wx => idx_any l k l[k] (List.getElem?_eq_getElem hlt) wx
      obtain ⟨s1, s2⟩ := sub48_eq l[k]
      have hb := l[k].toNat_lt
      have hv := HV.out
      rw [hdr, valueGo] at hv
      generalize l[k] = b at *
      clear HV hdr
      by_cases hbig : 1000000000000000000 < n
      · have hbi : (1000000000000000000 : Int) < (n : Int) := by omega
        rw [if_pos hbig] at hv
        have HV := Lib.hid hv
        clear hv
        go_wp2_with fail
        exact bodyPost_ret (v := .tuple #[.int .u64 0, .bool false]) (by simp [results, Tryd.results29, go_sem]) rfl ⟨by rw [HV.out]; rfl, rfl⟩
      · have hbi : ¬ (1000000000000000000 : Int) < (n : Int) := by omega
        rw [if_neg hbig] at hv
        have HV := Lib.hid hv
        clear hv
        go_wp2_with fail
        refine ⟨⟨k + 1, 10 * n + sub48 b, by omega, by omega, HV, by go_num, rfl, trivial⟩, ?_⟩
        show l.length - ((k : Int) + 1).toNat < l.length - ((k : Int)).toNat
        omega
    · obtain rfl : k = l.length := by omega
      have hlti : ¬ (l.length : Int) < (l.length : Int) := by omega
      have hv := HV.out
      rw [List.drop_length, valueGo] at hv
      have HV := Lib.hid hv
      clear hv
      go_wp2_with fail
      have ed : decide ((n : Int) ≤ 9223372036854775808) = decide (n ≤ 9223372036854775808) := by
        rw [decide_eq_decide]; omega
      exact bodyPost_ret (v := .tuple #[.int .u64 (n : Int), .bool (decide ((n : Int) ≤ 9223372036854775808))]) (by simp [results, Tryd.results29, go_sem]) rfl ⟨by rw [HV.out, ed], rfl⟩
theorem text0 (x : Int) : textL x 0 = (if x < 0 then [45] else []) ++ (digsN x.natAbs).map digB := by
  rw [textL_eq, Nat.pow_zero, Nat.div_one, Nat.mod_one]
  unfold restL
  rw [if_pos rfl, List.append_nil]
theorem decimal_any (x : Int) (h0 : -9223372036854775808 ≤ x) (h1 : x ≤ 9223372036854775807) (w : World) : Calls Tryd.prog 32 #[.int .i64 x] w fun e w' => e = .returned (.string ⟨(textL x 0).toArray⟩) ∧ w = w' := by
  have HL := Lib.hid (text0 x)
  have HU := Lib.hid (fun W => unsigned_any x.natAbs (by omega) W)
  have hdl := dec_len x.natAbs (by omega)
  by_cases hx : x < 0
  · have e1 : IntKind.u64.wrap (-IntKind.u64.wrap x) = (x.natAbs : Int) := by rw [IntKind.wrap_u64, IntKind.wrap_u64]; omega
    have hlen1 : ¬ 9223372036854775807 < 1 + (Lib.decDigits x.natAbs).length := by omega
    have HX := Lib.hid hx
    go_enter Tryd.func32, Tryd.ntmps32
    go_wp2_with fail
    refine (HU.out _).mono ?_
    rintro e w' ⟨rfl, rfl⟩
    go_wp2_with fail
    go_ret
    refine ⟨?_, rfl⟩
    rw [HL.out, if_pos HX.out, ← dec_digs]
    simp [bytes_append]
  · have e1 : IntKind.u64.wrap x = (x.natAbs : Int) := by rw [IntKind.wrap_u64]; omega
    have EX := Lib.hid (show x = (x.natAbs : Int) by omega)
    have HX := Lib.hid hx
    go_enter Tryd.func32, Tryd.ntmps32
    go_wp2_with fail
    first
      | refine (HU.out _).mono ?_
      | (rw [EX.out]; refine (HU.out _).mono ?_)
    rintro e w' ⟨rfl, rfl⟩
    go_wp2_with fail
    go_ret
    refine ⟨?_, rfl⟩
    rw [HL.out, if_neg (by have := HX.out; omega), ← dec_digs]
    simp
def candI (neg : Bool) (n : Nat) : Int := if neg = true then wrap64 (IntKind.u64.wrap (-(n : Int))) else wrap64 (n : Int)
theorem candI_range (neg : Bool) (n : Nat) : -9223372036854775808 ≤ candI neg n ∧ candI neg n ≤ 9223372036854775807 := by
  unfold candI wrap64
  split <;> omega
theorem candI_f (n : Nat) : candI false n = wrap64 (n : Int) := by unfold candI; rw [if_neg (by decide)]
theorem candI_t (n : Nat) : candI true n = wrap64 (IntKind.u64.wrap (-(n : Int))) := by unfold candI; rw [if_pos rfl]
theorem candI_text (y : Int) (h0 : -9223372036854775808 ≤ y) (h1 : y ≤ 9223372036854775807) : candI (decide (y < 0)) y.natAbs = y := by
  unfold candI
  by_cases h : y < 0
  · rw [if_pos (by simpa using h), IntKind.wrap_u64]
    unfold wrap64
    omega
  · rw [if_neg (by simpa using h)]
    unfold wrap64
    omega
theorem ref_int (y : Int) (l d : List UInt8) (neg : Bool) (hd : neg = true ∧ l = 45 :: d ∨ neg = false ∧ l = d ∧ l.head? ≠ some 45) (hl : textL y 0 = l) : neg = decide (y < 0) ∧ d = (digsN y.natAbs).map digB := by
  rw [text0] at hl
  obtain ⟨c, t, hc, hc'⟩ := body_head 0 y.natAbs
  rw [Nat.pow_zero, Nat.div_one, Nat.mod_one, show restL 0 0 = [] from rfl, List.append_nil] at hc
  by_cases hy : y < 0
  · rw [if_pos hy] at hl
    rcases hd with ⟨rfl, rfl⟩ | ⟨rfl, rfl, hh⟩
    · exact ⟨by simp [hy], ((List.cons.inj hl).2).symm⟩
    · rw [← hl] at hh; exact absurd rfl hh
  · rw [if_neg hy, List.nil_append] at hl
    rcases hd with ⟨rfl, rfl⟩ | ⟨rfl, rfl, hh⟩
    · rw [hc] at hl; exact absurd (List.cons.inj hl).1 hc'
    · exact ⟨by simp [hy], hl.symm⟩

set_option maxHeartbeats 4000000 in
theorem refNumber_neg (d : List UInt8) (hl : (45 :: d).length ≤ 1000) (w : World) : Calls Tryd.prog 18 #[.string ⟨(45 :: d).toArray⟩] w fun e w' => (∃ x ok, e = .returned (.tuple #[.int .i64 x, .bool ok]) ∧ ParseIs ⟨(45 :: d).toArray⟩ 0 x ok) ∧ w = w' := by
  have et : ∀ z : Int, textB z 0 = textL z 0 := fun z => by unfold textB; rw [if_pos (by omega)]; rfl
  have HET := Lib.hid et
  have HX : Hid (∀ y : Int, (⟨(textB y 0).toArray⟩ : ByteArray) = ⟨(45 :: d).toArray⟩ → true = decide (y < 0) ∧ d = (digsN y.natAbs).map digB) := Lib.hid (fun y h => ref_int y (45 :: d) d true (.inl ⟨rfl, rfl⟩) (by
    rw [et] at h
    exact list_of_bytes h))
  have hdl : d.length ≤ 1000 := by simp only [List.length_cons] at hl; omega
  have HVA := Lib.hid (fun W => value_any2 d hdl W)
  have HDA := Lib.hid (fun W => digits_any d (by omega) W)
  have i0 := fun wx => idx_any (45 :: d) 0 45 rfl wx
  have e1 : (⟨(45 :: d).toArray⟩ : ByteArray).extract 1 (d.length + 1) = ⟨d.toArray⟩ := by rw [extract_list, List.drop_succ_cons, List.drop_zero, List.take_of_length_le (by omega)]
  obtain ⟨n, okv, hv⟩ : ∃ n okv, valueGo 0 d = (n, okv) := ⟨_, _, rfl⟩
  have hn : n ≤ 10000000000000000255 := by have h := valueGo_le 0 d (by omega); rw [hv] at h; exact h
  have HV2 := Lib.hid hv
  have HVA2 := Lib.hid (fun W => by have h := HVA.out W; rw [hv] at h; exact h)
  clear hv HVA et
  go_enter Tryd.func18, Tryd.ntmps18
  go_wp2_with fail
  refine (HVA2.out _).mono ?_
  rintro e w1 ⟨rfl, rfl⟩
  go_wp2_with fail
  refine (HDA.out _).mono ?_
  rintro e w2 ⟨rfl, rfl⟩
  cases hdT : digitsF d with
  | false =>
    have HT0 := Lib.hid hdT
    clear hdT
    go_wp2_with fail
    exact bodyPost_ret (v := .tuple #[.int .i64 0, .bool false]) (by simp [results, Tryd.results18, go_sem]) rfl ⟨⟨0, false, rfl, .inr ⟨rfl, rfl, fun y y0 y1 _ h => by have e := (HX.out y h).2; have h9 := digitsF_digits _ (digsN_lt y.natAbs) (digsN_ne _); rw [← e, HT0.out] at h9; cases h9⟩⟩, rfl⟩
  | true =>
    clear hdT
    cases okv with
    | false =>
      go_wp2_with fail
      exact bodyPost_ret (v := .tuple #[.int .i64 0, .bool false]) (by simp [results, Tryd.results18, go_sem]) rfl ⟨⟨0, false, rfl, .inr ⟨rfl, rfl, fun y y0 y1 _ h => by have e := (HX.out y h).2; have h9 := value_digs y.natAbs (by omega); rw [← e, HV2.out] at h9; exact absurd (congrArg Prod.snd h9) (fun h => by cases h)⟩⟩, rfl⟩
    | true =>
      by_cases h19 : 19 < d.length
      · have h19i : 19 < (d.length : Int) := by omega
        have H19 := Lib.hid h19
        clear h19
        go_wp2_with fail
        exact bodyPost_ret (v := .tuple #[.int .i64 0, .bool false]) (by simp [results, Tryd.results18, go_sem]) rfl ⟨⟨0, false, rfl, .inr ⟨rfl, rfl, fun y y0 y1 _ h => by have e := (HX.out y h).2; have h9 := digsN_len 18 y.natAbs (Nat.lt_of_le_of_lt (show y.natAbs ≤ 9223372036854775808 by omega) (by decide)); have h8 := congrArg List.length e; rw [List.length_map] at h8; have h7 := H19.out; omega⟩⟩, rfl⟩
      · have h19i : ¬ 19 < (d.length : Int) := by omega
        have HCR := Lib.hid (show -9223372036854775808 ≤ wrap64 (IntKind.u64.wrap (-(n : Int))) ∧ wrap64 (IntKind.u64.wrap (-(n : Int))) ≤ 9223372036854775807 by rw [← candI_t]; exact candI_range true n)
        have HNO := Lib.hid (show ∀ y : Int, -9223372036854775808 ≤ y → y ≤ 9223372036854775807 → (⟨(textB y 0).toArray⟩ : ByteArray) = ⟨(45 :: d).toArray⟩ → wrap64 (IntKind.u64.wrap (-(n : Int))) = y from fun y y0 y1 h => by
          have e := HX.out y h
          have h9 := value_digs y.natAbs (by omega)
          rw [← e.2, HV2.out] at h9
          have h10 : n = y.natAbs := congrArg Prod.fst h9
          have h11 := candI_text y y0 y1
          rw [← h10, ← e.1, candI_t] at h11
          exact h11)
        go_wp2_with fail
        generalize wrap64 (IntKind.u64.wrap (-(n : Int))) = c at *
        refine (decimal_any c HCR.out.1 HCR.out.2 _).mono ?_
        rintro e w5 ⟨rfl, rfl⟩
        by_cases hq : textL c 0 = (45 :: d)
        · have hqb : (textL c 0 == (45 :: d)) = true := by simpa using hq
          have HQ := Lib.hid hq
          clear hq
          go_wp2_with fail
          exact bodyPost_ret (v := .tuple #[.int .i64 c, .bool true]) (by simp [results, Tryd.results18, go_sem]) rfl ⟨⟨c, true, rfl, .inl ⟨rfl, by decide, HCR.out, by rw [HET.out, HQ.out]⟩⟩, rfl⟩
        · have hqb : (textL c 0 == (45 :: d)) = false := by simpa using hq
          have HQ := Lib.hid hq
          clear hq
          go_wp2_with fail
          exact bodyPost_ret (v := .tuple #[.int .i64 0, .bool false]) (by simp [results, Tryd.results18, go_sem]) rfl ⟨⟨0, false, rfl, .inr ⟨rfl, rfl, fun y y0 y1 _ h => HQ.out (by rw [HNO.out y y0 y1 h, ← HET.out]; exact list_of_bytes h)⟩⟩, rfl⟩

set_option maxHeartbeats 4000000 in
theorem refNumber_pos0 (d : List UInt8) (hl : d.length ≤ 1000) (hh : d.head? ≠ some 45) (hz : d.length = 0) (w : World) : Calls Tryd.prog 18 #[.string ⟨d.toArray⟩] w fun e w' => (∃ x ok, e = .returned (.tuple #[.int .i64 x, .bool ok]) ∧ ParseIs ⟨d.toArray⟩ 0 x ok) ∧ w = w' := by
  have et : ∀ z : Int, textB z 0 = textL z 0 := fun z => by unfold textB; rw [if_pos (by omega)]; rfl
  have HET := Lib.hid et
  have HX : Hid (∀ y : Int, (⟨(textB y 0).toArray⟩ : ByteArray) = ⟨d.toArray⟩ → false = decide (y < 0) ∧ d = (digsN y.natAbs).map digB) := Lib.hid (fun y h => ref_int y d d false (.inr ⟨rfl, rfl, hh⟩) (by
    rw [et] at h
    exact list_of_bytes h))
  have hdl : d.length ≤ 1000 := by omega
  have HVA := Lib.hid (fun W => value_any2 d hdl W)
  have HDA := Lib.hid (fun W => digits_any d (by omega) W)
  have hzi : ¬ 0 < (d.length : Int) := by omega
  obtain ⟨n, okv, hv⟩ : ∃ n okv, valueGo 0 d = (n, okv) := ⟨_, _, rfl⟩
  have hn : n ≤ 10000000000000000255 := by have h := valueGo_le 0 d (by omega); rw [hv] at h; exact h
  have HV2 := Lib.hid hv
  have HVA2 := Lib.hid (fun W => by have h := HVA.out W; rw [hv] at h; exact h)
  clear hv HVA et
  go_enter Tryd.func18, Tryd.ntmps18
  go_wp2_with fail
  refine (HVA2.out _).mono ?_
  rintro e w1 ⟨rfl, rfl⟩
  go_wp2_with fail
  refine (HDA.out _).mono ?_
  rintro e w2 ⟨rfl, rfl⟩
  cases hdT : digitsF d with
  | false =>
    have HT0 := Lib.hid hdT
    clear hdT
    go_wp2_with fail
    exact bodyPost_ret (v := .tuple #[.int .i64 0, .bool false]) (by simp [results, Tryd.results18, go_sem]) rfl ⟨⟨0, false, rfl, .inr ⟨rfl, rfl, fun y y0 y1 _ h => by have e := (HX.out y h).2; have h9 := digitsF_digits _ (digsN_lt y.natAbs) (digsN_ne _); rw [← e, HT0.out] at h9; cases h9⟩⟩, rfl⟩
  | true =>
    clear hdT
    cases okv with
    | false =>
      go_wp2_with fail
      exact bodyPost_ret (v := .tuple #[.int .i64 0, .bool false]) (by simp [results, Tryd.results18, go_sem]) rfl ⟨⟨0, false, rfl, .inr ⟨rfl, rfl, fun y y0 y1 _ h => by have e := (HX.out y h).2; have h9 := value_digs y.natAbs (by omega); rw [← e, HV2.out] at h9; exact absurd (congrArg Prod.snd h9) (fun h => by cases h)⟩⟩, rfl⟩
    | true =>
      by_cases h19 : 19 < d.length
      · have h19i : 19 < (d.length : Int) := by omega
        have H19 := Lib.hid h19
        clear h19
        exfalso; have := H19.out; omega
      · have h19i : ¬ 19 < (d.length : Int) := by omega
        have HCR := Lib.hid (show -9223372036854775808 ≤ wrap64 (n : Int) ∧ wrap64 (n : Int) ≤ 9223372036854775807 by rw [← candI_f]; exact candI_range false n)
        have HNO := Lib.hid (show ∀ y : Int, -9223372036854775808 ≤ y → y ≤ 9223372036854775807 → (⟨(textB y 0).toArray⟩ : ByteArray) = ⟨d.toArray⟩ → wrap64 (n : Int) = y from fun y y0 y1 h => by
          have e := HX.out y h
          have h9 := value_digs y.natAbs (by omega)
          rw [← e.2, HV2.out] at h9
          have h10 : n = y.natAbs := congrArg Prod.fst h9
          have h11 := candI_text y y0 y1
          rw [← h10, ← e.1, candI_f] at h11
          exact h11)
        go_wp2_with fail
        generalize wrap64 (n : Int) = c at *
        refine (decimal_any c HCR.out.1 HCR.out.2 _).mono ?_
        rintro e w5 ⟨rfl, rfl⟩
        by_cases hq : textL c 0 = d
        · have hqb : (textL c 0 == d) = true := by simpa using hq
          have HQ := Lib.hid hq
          clear hq
          go_wp2_with fail
          exact bodyPost_ret (v := .tuple #[.int .i64 c, .bool true]) (by simp [results, Tryd.results18, go_sem]) rfl ⟨⟨c, true, rfl, .inl ⟨rfl, by decide, HCR.out, by rw [HET.out, HQ.out]⟩⟩, rfl⟩
        · have hqb : (textL c 0 == d) = false := by simpa using hq
          have HQ := Lib.hid hq
          clear hq
          go_wp2_with fail
          exact bodyPost_ret (v := .tuple #[.int .i64 0, .bool false]) (by simp [results, Tryd.results18, go_sem]) rfl ⟨⟨0, false, rfl, .inr ⟨rfl, rfl, fun y y0 y1 _ h => HQ.out (by rw [HNO.out y y0 y1 h, ← HET.out]; exact list_of_bytes h)⟩⟩, rfl⟩

set_option maxHeartbeats 4000000 in
theorem refNumber_pos1 (d : List UInt8) (hl : d.length ≤ 1000) (hh : d.head? ≠ some 45) (b : UInt8) (hb0 : d[0]? = some b) (hb45 : b ≠ 45) (w : World) : Calls Tryd.prog 18 #[.string ⟨d.toArray⟩] w fun e w' => (∃ x ok, e = .returned (.tuple #[.int .i64 x, .bool ok]) ∧ ParseIs ⟨d.toArray⟩ 0 x ok) ∧ w = w' := by
  have et : ∀ z : Int, textB z 0 = textL z 0 := fun z => by unfold textB; rw [if_pos (by omega)]; rfl
  have HET := Lib.hid et
  have HX : Hid (∀ y : Int, (⟨(textB y 0).toArray⟩ : ByteArray) = ⟨d.toArray⟩ → false = decide (y < 0) ∧ d = (digsN y.natAbs).map digB) := Lib.hid (fun y h => ref_int y d d false (.inr ⟨rfl, rfl, hh⟩) (by
    rw [et] at h
    exact list_of_bytes h))
  have hdl : d.length ≤ 1000 := by omega
  have HVA := Lib.hid (fun W => value_any2 d hdl W)
  have HDA := Lib.hid (fun W => digits_any d (by omega) W)
  have i0 : ∀ wx : World, (Instr.index 9 (.string ⟨d.toArray⟩) (.int .i64 0)).run Tryd.prog wx = .ok (.int .u8 (b.toNat : Int)) wx := fun wx => idx_any d 0 b hb0 wx
  have hpos : 0 < d.length := by rcases Nat.lt_or_ge 0 d.length with h | h; exact h; rw [List.getElem?_eq_none h] at hb0; cases hb0
  have hzi : 0 < (d.length : Int) := by omega
  have hbn : ¬ b.toNat = 45 := fun e => hb45 (UInt8.toNat_inj.1 e)
  have hbi : ¬ (b.toNat : Int) = 45 := by omega
  clear hb0
  obtain ⟨n, okv, hv⟩ : ∃ n okv, valueGo 0 d = (n, okv) := ⟨_, _, rfl⟩
  have hn : n ≤ 10000000000000000255 := by have h := valueGo_le 0 d (by omega); rw [hv] at h; exact h
  have HV2 := Lib.hid hv
  have HVA2 := Lib.hid (fun W => by have h := HVA.out W; rw [hv] at h; exact h)
  clear hv HVA et
  go_enter Tryd.func18, Tryd.ntmps18
  go_wp2_with fail
  refine (HVA2.out _).mono ?_
  rintro e w1 ⟨rfl, rfl⟩
  go_wp2_with fail
  refine (HDA.out _).mono ?_
  rintro e w2 ⟨rfl, rfl⟩
  cases hdT : digitsF d with
  | false =>
    have HT0 := Lib.hid hdT
    clear hdT
    go_wp2_with fail
    exact bodyPost_ret (v := .tuple #[.int .i64 0, .bool false]) (by simp [results, Tryd.results18, go_sem]) rfl ⟨⟨0, false, rfl, .inr ⟨rfl, rfl, fun y y0 y1 _ h => by have e := (HX.out y h).2; have h9 := digitsF_digits _ (digsN_lt y.natAbs) (digsN_ne _); rw [← e, HT0.out] at h9; cases h9⟩⟩, rfl⟩
  | true =>
    clear hdT
    cases okv with
    | false =>
      go_wp2_with fail
      exact bodyPost_ret (v := .tuple #[.int .i64 0, .bool false]) (by simp [results, Tryd.results18, go_sem]) rfl ⟨⟨0, false, rfl, .inr ⟨rfl, rfl, fun y y0 y1 _ h => by have e := (HX.out y h).2; have h9 := value_digs y.natAbs (by omega); rw [← e, HV2.out] at h9; exact absurd (congrArg Prod.snd h9) (fun h => by cases h)⟩⟩, rfl⟩
    | true =>
      by_cases h19 : 19 < d.length
      · have h19i : 19 < (d.length : Int) := by omega
        have H19 := Lib.hid h19
        clear h19
        go_wp2_with fail
        exact bodyPost_ret (v := .tuple #[.int .i64 0, .bool false]) (by simp [results, Tryd.results18, go_sem]) rfl ⟨⟨0, false, rfl, .inr ⟨rfl, rfl, fun y y0 y1 _ h => by have e := (HX.out y h).2; have h9 := digsN_len 18 y.natAbs (Nat.lt_of_le_of_lt (show y.natAbs ≤ 9223372036854775808 by omega) (by decide)); have h8 := congrArg List.length e; rw [List.length_map] at h8; have h7 := H19.out; omega⟩⟩, rfl⟩
      · have h19i : ¬ 19 < (d.length : Int) := by omega
        have HCR := Lib.hid (show -9223372036854775808 ≤ wrap64 (n : Int) ∧ wrap64 (n : Int) ≤ 9223372036854775807 by rw [← candI_f]; exact candI_range false n)
        have HNO := Lib.hid (show ∀ y : Int, -9223372036854775808 ≤ y → y ≤ 9223372036854775807 → (⟨(textB y 0).toArray⟩ : ByteArray) = ⟨d.toArray⟩ → wrap64 (n : Int) = y from fun y y0 y1 h => by
          have e := HX.out y h
          have h9 := value_digs y.natAbs (by omega)
          rw [← e.2, HV2.out] at h9
          have h10 : n = y.natAbs := congrArg Prod.fst h9
          have h11 := candI_text y y0 y1
          rw [← h10, ← e.1, candI_f] at h11
          exact h11)
        go_wp2_with fail
        generalize wrap64 (n : Int) = c at *
        refine (decimal_any c HCR.out.1 HCR.out.2 _).mono ?_
        rintro e w5 ⟨rfl, rfl⟩
        by_cases hq : textL c 0 = d
        · have hqb : (textL c 0 == d) = true := by simpa using hq
          have HQ := Lib.hid hq
          clear hq
          go_wp2_with fail
          exact bodyPost_ret (v := .tuple #[.int .i64 c, .bool true]) (by simp [results, Tryd.results18, go_sem]) rfl ⟨⟨c, true, rfl, .inl ⟨rfl, by decide, HCR.out, by rw [HET.out, HQ.out]⟩⟩, rfl⟩
        · have hqb : (textL c 0 == d) = false := by simpa using hq
          have HQ := Lib.hid hq
          clear hq
          go_wp2_with fail
          exact bodyPost_ret (v := .tuple #[.int .i64 0, .bool false]) (by simp [results, Tryd.results18, go_sem]) rfl ⟨⟨0, false, rfl, .inr ⟨rfl, rfl, fun y y0 y1 _ h => HQ.out (by rw [HNO.out y y0 y1 h, ← HET.out]; exact list_of_bytes h)⟩⟩, rfl⟩

theorem refNumber_any (s : ByteArray) (hs : s.size ≤ 300) (w : World) : Calls Tryd.prog 18 #[.string s] w fun e w' => (∃ x ok, e = .returned (.tuple #[.int .i64 x, .bool ok]) ∧ ParseIs s 0 x ok) ∧ w = w' := by
  have h := bytes_eta s
  have hl : s.data.toList.length ≤ 1000 := by
    have : s.data.toList.length = s.size := Array.length_toList
    omega
  generalize s.data.toList = l at *
  subst h
  cases l with
  | nil => exact refNumber_pos0 [] hl (by simp) rfl w
  | cons b t =>
    by_cases hb : b = 45
    · subst hb; exact refNumber_neg t hl w
    · exact refNumber_pos1 (b :: t) hl (by simpa using hb) b rfl hb w
theorem number_any (s : ByteArray) (w : World) (ht : Pow10 w) : Calls Tryd.prog 17 #[.string s] w fun e w' => (∃ x ok, e = .returned (.tuple #[.int .i64 x, .bool ok]) ∧ ParseIs s 0 x ok) ∧ Below w.heap.size w w' := by
  have HP := Lib.hid (fun W t => parse_any s 0 W t)
  have HT := Lib.hid ht
  clear ht
  go_enter Tryd.func17, Tryd.ntmps17
  go_wp2_with fail
  refine (HP.out _ HT.out).mono ?_
  rintro e w1 ⟨⟨x, ok, rfl, p1⟩, b1⟩
  go_wp2_with fail
  exact bodyPost_ret (v := .tuple #[.int .i64 x, .bool ok]) (by simp [results, Tryd.results17, go_sem]) rfl ⟨⟨x, ok, rfl, p1⟩, b1⟩
/-- what Natural gives -/
def natR (x : Int) (ok : Bool) (m : Int) : Int × Bool := if ok = true ∧ 0 ≤ x ∧ x ≤ m then (x, true) else (0, false)
theorem natural_any (s : ByteArray) (m : Int) (w : World) (ht : Pow10 w) : Calls Tryd.prog 19 #[.string s, .int .i64 m] w fun e w' => (∃ x ok, e = .returned (.tuple #[.int .i64 (natR x ok m).1, .bool (natR x ok m).2]) ∧ ParseIs s 0 x ok) ∧ Below w.heap.size w w' := by
  have HN := Lib.hid (fun W t => number_any s W t)
  have HT := Lib.hid ht
  clear ht
  go_enter Tryd.func19, Tryd.ntmps19
  go_wp2_with fail
  refine (HN.out _ HT.out).mono ?_
  rintro e w1 ⟨⟨x, ok, rfl, p1⟩, b1⟩
  have P1 := Lib.hid p1
  clear p1
  have hr : natR x ok m = if ok = true ∧ 0 ≤ x ∧ x ≤ m then (x, true) else (0, false) := rfl
  cases ok with
  | false =>
    rw [if_neg (by simp)] at hr
    have HR := Lib.hid hr
    clear hr
    go_wp2_with fail
    exact bodyPost_ret (v := .tuple #[.int .i64 0, .bool false]) (by simp [results, Tryd.results19, go_sem]) rfl ⟨⟨x, false, by rw [HR.out], P1.out⟩, b1⟩
  | true =>
    by_cases hx : x < 0
    · rw [if_neg (by omega)] at hr
      have HR := Lib.hid hr
      clear hr
      go_wp2_with fail
      exact bodyPost_ret (v := .tuple #[.int .i64 0, .bool false]) (by simp [results, Tryd.results19, go_sem]) rfl ⟨⟨x, true, by rw [HR.out], P1.out⟩, b1⟩
    · by_cases hm : m < x
      · rw [if_neg (by omega)] at hr
        have HR := Lib.hid hr
        clear hr
        go_wp2_with fail
        exact bodyPost_ret (v := .tuple #[.int .i64 0, .bool false]) (by simp [results, Tryd.results19, go_sem]) rfl ⟨⟨x, true, by rw [HR.out], P1.out⟩, b1⟩
      · rw [if_pos ⟨rfl, by omega, by omega⟩] at hr
        have HR := Lib.hid hr
        clear hr
        go_wp2_with fail
        exact bodyPost_ret (v := .tuple #[.int .i64 x, .bool true]) (by simp [results, Tryd.results19, go_sem]) rfl ⟨⟨x, true, by rw [HR.out], P1.out⟩, b1⟩
end Go.Proofs.YtdpcpfapleehmaaDoor
