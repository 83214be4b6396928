/- Layer 18: messages are received in the order in which they were sent. -/
import Derived.Test.YtgbgmmakiimbbaaLnkW
namespace Go.Proofs.Ytgbgmmakiimbbaa
open Go.RowKit
set_option linter.unusedVariables false
set_option maxRecDepth 8000 in
set_option maxHeartbeats 4000000 in
theorem walk_orders (v : Value) (zss : List (List Int)) (cp : Int) (hcp : 0 ≤ cp ∧ cp ≤ 255) (hl : zss.length ≤ maxLen) (hm : ∀ zs ∈ zss, zs.length ≤ maxLen) (w : World) (hv : RowsAt .i64 w.heap.size w v zss) :
    Calls Try.prog 4 #[v, .int .u8 cp] w fun e w' => e = .returned (.bool true) ∧ Below w.heap.size w w' := by
  obtain ⟨N, rfl⟩ : ∃ N : Nat, cp = N := ⟨cp.toNat, by omega⟩
  obtain ⟨c, hc⟩ : ∃ c : Nat, c = 1 + N % 9 := ⟨_, rfl⟩
  have hc1 : 1 ≤ c := by omega
  have hc2 : c ≤ 9 := by omega
  have w0 : IntKind.i64.wrap (N : Int) = N := IntWalk.i64_in _ (by omega)
  have w1' : (N : Int).tmod 9 = ((N % 9 : Nat) : Int) := by rw [Int.tmod_eq_emod_of_nonneg (by omega)]; omega
  have w2' : IntKind.i64.wrap ((N % 9 : Nat) : Int) = ((N % 9 : Nat) : Int) := IntWalk.i64_in _ (by omega)
  have w3' : (1 : Int) + ((N % 9 : Nat) : Int) = c := by omega
  have w4' : IntKind.i64.wrap ((1 : Int) + ((N % 9 : Nat) : Int)) = c := (IntWalk.i64_in _ (by omega)).trans w3'
  have HC := Lib.hid hc
  clear hc
  have bA := (Below.refl w.heap.size w).alloc (Nat.le_refl _) (.cells #[v] 49)
  have hA := hv.below bA
  obtain ⟨za, zc, rfl⟩ := hv.value
  have OV := One.new w 49 (.slice za zss.length zc)
  have HA := Lib.hid hA
  clear hA hv
  generalize hr9 : N % 9 = r9 at *
  go_enter Try.func4, Try.ntmps4
  go_upto_region 1 with fail
  generalize w.alloc (.cells #[.slice za zss.length zc] 49) = W0 at *
  have hW0 : w.heap.size < W0.heap.size := OV.lt
  go_wp2_with fail
  refine (new_any c W0 (by omega) (by omega)).mono ?_
  rintro e w1 ⟨rfl, hL, b1⟩
  rw [Int.toNat_natCast] at hL
  have hbl : W0.heap.size < w1.heap.size := Six.lt hL
  have c2 := (Below.refl w1.heap.size w1).alloc (Nat.le_refl _) (.cells #[.pointer (some ⟨W0.heap.size, 0, none⟩)] 23)
  have OL := One.new w1 23 (.pointer (some ⟨W0.heap.size, 0, none⟩))
  have L2 := Lib.hid (Six.later hL c2)
  have b12 := b1.trans (c2.mono b1.size)
  have OV2 := (OV.later b1).later c2
  have B2 := Lib.hid (bA.trans (b12.mono bA.size))
  have HA2 := Lib.hid (HA.out.below (b12.mono (Nat.le_of_lt hW0)))
  clear hL b1 c2 b12 OV HA bA w0 w1' w2' w3' w4'
  go_upto_region 3 with fail
  generalize w1.alloc (.cells #[.pointer (some ⟨W0.heap.size, 0, none⟩)] 23) = w2 at *
  generalize w1.heap.size = bl at *
  generalize W0.heap.size = b at *
  have cv := OV2.cell
  have cl := OL.cell
  cases hf : fewB zss with
  | false =>
    have HF := few_any (.slice za zss.length zc) zss hl hm w.heap.size w2 HA2.out
    rw [hf] at HF
    go_wp2_with fail
    refine HF.mono ?_
    rintro e w3 ⟨rfl, rfl⟩
    go_wp2_with fail
    refine (alive18_any w2).mono ?_
    rintro e w4 ⟨rfl, b4⟩
    replace cl := cell_step b4 cl
    have B4 := Lib.hid (B2.out.trans (b4.mono B2.out.size))
    clear HF HA2 B2 b4 L2
    go_wp2_with fail
    go_ret
    exact ⟨rfl, B4.out⟩
  | true =>
    have HF := few_any (.slice za zss.length zc) zss hl hm w.heap.size w2 HA2.out
    rw [hf] at HF
    obtain ⟨hn, hz⟩ := fewB_true hf
    have L0 : LinkAt b (b + 1) c [] 0 0 w2 := LinkAt.new (Nat.lt_succ_self _) (Six.lt L2.out) L2.out
    go_wp2_with fail
    refine HF.mono ?_
    rintro e w3 ⟨rfl, rfl⟩
    clear HF hl hm hf
    go_upto_region 5 with fail
    have c3 := (Below.refl w2.heap.size w2).alloc (Nat.le_refl _) (.cells #[.int .i64 0] 3)
    have ON := One.new w2 3 (.int .i64 0)
    have hbn : bl < w2.heap.size := OL.lt
    replace OL := OL.later c3
    have L3 := Lib.hid (L0.later c3)
    have OV3 := OV2.later c3
    have B3 := Lib.hid (B2.out.trans (c3.mono B2.out.size))
    have HA3 := Lib.hid (HA2.out.below (c3.mono B2.out.size))
    clear HA2 B2 c3 L2 L0 OV2 cv cl
    go_upto_region 7 with fail
    generalize w2.alloc (.cells #[.int .i64 0] 3) = w3 at *
    generalize w2.heap.size = bn at *
    have HZ := Lib.hid hz
    clear hz
    have cv := OV3.cell
    have HOL := Lib.hid OL
    have HON := Lib.hid ON
    have HOV := Lib.hid OV3
    clear OL ON OV3
    go_wp2_with fail
    go_loopw [9, 10, 33] (fun _ _ x wr => ∃ (i p hi : Nat), i ≤ zss.length ∧ p ≤ i ∧ i ≤ p + c ∧ x = .int .i64 i ∧ hi ≤ c ∧ One wr bl 23 (.pointer (some ⟨b, 0, none⟩)) ∧ One wr bn 3 (.int .i64 p) ∧ LinkAt b (b + 1) c (oQ zss p i) p hi wr ∧ Below b w3 wr) (fun _ _ x _ => zss.length - (intOf x).toNat)
    case atStart => exact ⟨0, 0, 0, Nat.zero_le _, Nat.le_refl _, by omega, rfl, Nat.zero_le _, HOL.out, HON.out, L3.out, Below.refl _ _⟩
    case round =>
      clear HOL HON L3 cv
      obtain ⟨i, p, hi, hi1, hpi, hic, rfl, hhi, ol, on, hL, hB⟩ := hrel
      have hA' := Lib.hid (HA3.out.below (hB.mono (Nat.le_of_lt hW0)))
      have ov := Lib.hid (show One wr w.heap.size _ _ from (hB.block w.heap.size hW0).trans HOV.out)
      by_cases hlt : i < zss.length
      · have hdec : decide ((i : Int) < (zss.length : Int)) = true := by simp; omega
        have wj : IntKind.i64.wrap ((i : Int) + 1) = i + 1 := IntWalk.i64_in _ (by omega)
        rcases hA'.out.form with ⟨_, h0'⟩ | ⟨g, off, cp', e0, hcp', hgn, hrow⟩
        · rw [h0'] at hlt; simp at hlt
        cases e0
        obtain ⟨ia, ic, hcell, hI⟩ := hrow i hlt
        have i0 : (0 : Int) ≤ (i : Int) := by omega
        have i1 : (i : Int) < (zss.length : Int) := by omega
        have hzi : (zss[i]?.getD []).length ≤ 1500 := by rw [List.getElem?_eq_getElem hlt]; exact HZ.out _ (List.getElem_mem hlt)
        have hIn : ∀ W', Below b wr W' → IntsW .i64 w.heap.size W' (.slice ia (zss[i]?.getD []).length ic) (zss[i]?.getD []) := fun W' hb => hI.below (hb.mono (Nat.le_of_lt hW0))
        have HOL := Lib.hid ol
        have HON := Lib.hid on
        have HLL := Lib.hid hL
        have HB := Lib.hid hB
        have HIn := Lib.hid hIn
        clear hrow hI ol on hL hB hIn
        generalize hzl : zss[i]?.getD [] = zi at *
        go_upto_region 10 with fail
        generalize wr = wo at *
        go_loopw [] (fun wr => ∃ (p hi : Nat), p ≤ i ∧ i ≤ p + c ∧ hi ≤ c ∧ One wr bl 23 (.pointer (some ⟨b, 0, none⟩)) ∧ One wr bn 3 (.int .i64 p) ∧ LinkAt b (b + 1) c (oQ zss p i) p hi wr ∧ Below b wo wr) (fun wr => i - (intOf ((wr.cell? ⟨bn, 0, none⟩).getD undef)).toNat)
        case atStart => exact ⟨p, hi, hpi, hic, hhi, HOL.out, HON.out, HLL.out, Below.refl _ _⟩
        case round =>
          clear HOL HON HLL hpi hic hhi
          obtain ⟨p, hi, hpi, hic, hhi, ol, on, hL, hB⟩ := hrel
          have hlen := linkLenB b c p hi (oQ zss p i) wr hL (oQ_ok zss HZ.out c p i hi (by omega) (by omega) (by omega))
          rw [oQ_length] at hlen
          have cl := ol.cell
          obtain ⟨d, hd⟩ : ∃ d, d = i - p := ⟨_, rfl⟩
          rw [← hd] at hlen
          have HLL := Lib.hid hL
          have HOL := Lib.hid ol
          have HON := Lib.hid on
          have HBw := Lib.hid hB
          have HD := Lib.hid hd
          clear hL ol on hB
          by_cases hdc : c ≤ d
          · have g1 : decide ((c : Int) ≤ (d : Int)) = true := by simp; omega
            have hpi' : p < i := by omega
            clear hd
            go_wp2_with fail
            refine hlen.mono ?_
            rintro e w5 ⟨rfl, b5⟩
            have hA5 := hA'.out.below ((HBw.out.mono (Nat.le_of_lt hW0)).trans (b5.mono (Nat.le_trans (Nat.le_of_lt hW0) (Nat.le_of_lt HLL.out.lt))))
            have ov5 := ((HBw.out.trans (b5.mono (Nat.le_of_lt HLL.out.lt))).block w.heap.size hW0).trans ov.out
            have B5 := Lib.hid (HBw.out.trans (b5.mono (Nat.le_of_lt HLL.out.lt)))
            have HT := Lib.hid (take_any b (b + 1) bl bn w.heap.size w.heap.size c zss HZ.out hn (by omega) p i hi hpi' hi1 (by omega) _ w5 (Nat.le_of_lt hW0) hA5 (by omega) hbl hW0 (by omega) (HOL.out.later b5) (HON.out.later b5) ov5 (HLL.out.later b5))
            have hmeas := HON.out.cell
            have HM := Lib.hid hmeas
            clear hmeas hA5 ov5 b5 hlen cl HBw HOL HON HLL
            go_wp2_with fail
            refine HT.out.mono ?_
            rintro e w6 ⟨rfl, ol6, on6, hL6, hB6⟩
            have HOL := Lib.hid ol6
            have HON := Lib.hid on6
            have HLL := Lib.hid hL6
            have HB6 := Lib.hid (B5.out.trans hB6)
            clear ol6 on6 hL6 hB6 HT
            go_wp2_with fail
            go_roundw
            case rel => exact ⟨p + 1, hi, by omega, by omega, hhi, HOL.out, HON.out, HLL.out, HB6.out⟩
            case measure =>
              rw [HM.out, HON.out.cell]
              simp [intOf]
              omega
          · have g1 : decide ((c : Int) ≤ (d : Int)) = false := by simp; omega
            clear hd
            go_wp2_with fail
            refine hlen.mono ?_
            rintro e w5 ⟨rfl, b5⟩
            have hlt5 : b < w5.heap.size := Nat.lt_of_lt_of_le HLL.out.lt b5.size
            have B5 := Lib.hid (HBw.out.trans (b5.mono (Nat.le_of_lt HLL.out.lt)))
            have L5 := HLL.out.later b5
            have OL5 := HOL.out.later b5
            have ON5 := Lib.hid (HON.out.later b5)
            have hI5 : ∀ W', Below b w5 W' → IntsW .i64 w.heap.size W' (.slice ia zi.length ic) zi := fun W' hb => HIn.out W' (B5.out.trans hb)
            have HS := Lib.hid (send_ok b c p hi (oQ zss p i) ⟨i, 0, 0, 0, 0⟩ (.slice ia zi.length ic) zi (by omega) w5 (fun W' g => (hI5 W' (Grown.below g hlt5)).grow (Nat.le_trans (Nat.le_of_lt hW0) (Nat.le_of_lt hlt5))) L5 (oQ_ok zss HZ.out c p i hi (by omega) (by omega) (by omega)) (by rw [oQ_length]; have := HD.out; omega))
            replace cl := OL5.cell
            have HOL5 := Lib.hid OL5
            have HL5 := Lib.hid L5
            clear OL5 L5 b5 hlen HBw HOL HON HLL hI5 HIn
            go_wp2_with fail
            refine HS.out.mono ?_
            rintro e w6 ⟨rfl, l6, t6, r6⟩
            have hsn : oQ zss p (i + 1) = oQ zss p i ++ [⟨⟨i, 0, 0, 0, 0⟩, zi⟩] := by
              rw [oQ_snoc zss hpi]
              unfold oMs
              rw [hzl]
            rw [← hsn, oQ_length] at l6
            have OL6 := Lib.hid (HOL5.out.touch HL5.out t6 (by omega) (by decide))
            have ON6 := Lib.hid (ON5.out.touch HL5.out t6 (by omega) (by decide))
            have B6 := Lib.hid (HB.out.trans (B5.out.trans t6.1))
            have L6 := Lib.hid l6
            clear l6 t6 r6 HS HOL5 HL5 ON5 B5 hsn cl
            have hd := HD.out
            have hmx : max hi (i - p + 1) ≤ c := by omega
            clear hd
            go_wp2_with fail
            go_roundw
            case rel => exact ⟨i + 1, p, max hi (i - p + 1), by omega, by omega, by have := HD.out; omega, by go_num, hmx, OL6.out, ON6.out, L6.out, B6.out⟩
            case measure => simp [intOf]; omega
      · have hin : i = zss.length := by omega
        subst hin
        have hdec : decide ((zss.length : Int) < (zss.length : Int)) = false := by simp
        have HOL := Lib.hid ol
        have HON := Lib.hid on
        have HLL := Lib.hid hL
        have HB := Lib.hid hB
        clear ol on hL hB
        go_wp2_with fail
        generalize wr = wo at *
        have cv := ov.out.cell
        go_loopw [] (fun wr => ∃ (p hi : Nat), p ≤ zss.length ∧ hi ≤ c ∧ One wr bl 23 (.pointer (some ⟨b, 0, none⟩)) ∧ One wr bn 3 (.int .i64 p) ∧ LinkAt b (b + 1) c (oQ zss p zss.length) p hi wr ∧ Below b wo wr) (fun wr => zss.length - (intOf ((wr.cell? ⟨bn, 0, none⟩).getD undef)).toNat)
        case atStart => exact ⟨p, hi, hpi, hhi, HOL.out, HON.out, HLL.out, Below.refl _ _⟩
        case round =>
          clear HOL HON HLL hpi hic hhi cv
          obtain ⟨p, hi, hpi, hhi, ol, on, hL, hB⟩ := hrel
          have hA5 := hA'.out.below (hB.mono (Nat.le_of_lt hW0))
          have ov5 : One wr w.heap.size _ _ := (hB.block w.heap.size hW0).trans ov.out
          have cn := on.cell
          have cv := ov5.cell
          have HLL := Lib.hid hL
          have HOL := Lib.hid ol
          have HON := Lib.hid on
          have HBw := Lib.hid hB
          have HOV5 := Lib.hid ov5
          have HA5 := Lib.hid hA5
          clear hL ol on hB ov5 hA5
          by_cases hlt2 : p < zss.length
          · have g1 : decide ((p : Int) < (zss.length : Int)) = true := by simp; omega
            have HT := Lib.hid (take_any b (b + 1) bl bn w.heap.size w.heap.size c zss HZ.out hn (by omega) p zss.length hi hlt2 (Nat.le_refl _) (by omega) _ wr (Nat.le_of_lt hW0) HA5.out (by omega) hbl hW0 (by omega) HOL.out HON.out HOV5.out HLL.out)
            have HM := Lib.hid HON.out.cell
            clear HLL HOL HON HOV5 HA5
            go_wp2_with fail
            refine HT.out.mono ?_
            rintro e w6 ⟨rfl, ol6, on6, hL6, hB6⟩
            have HOL := Lib.hid ol6
            have HON := Lib.hid on6
            have HLL := Lib.hid hL6
            have HB6 := Lib.hid (HBw.out.trans hB6)
            clear ol6 on6 hL6 hB6 HT HBw cn cv
            go_wp2_with fail
            go_roundw
            case rel => exact ⟨p + 1, hi, by omega, hhi, HOL.out, HON.out, HLL.out, HB6.out⟩
            case measure =>
              rw [HM.out, HON.out.cell]
              simp [intOf]
              omega
          · have hpn : p = zss.length := by omega
            subst hpn
            have g1 : decide ((zss.length : Int) < (zss.length : Int)) = false := by simp
            have bW := HB.out.trans HBw.out
            have BW := Lib.hid (B3.out.trans (bW.mono (Nat.le_of_lt hW0)))
            have hlw := HLL.out.lt
            have c7 := (Below.refl wr.heap.size wr).alloc (Nat.le_refl _) (.cells #[.int .i64 c, .slice none 0 0, .int .i64 0, .int .i64 0] 29)
            have F7 := Four.new wr 29 (.int .i64 c) (.slice none 0 0) (.int .i64 0) (.int .i64 0)
            have OL7 := HOL.out.later c7
            have L7 := HLL.out.later c7
            have B7 := Lib.hid (BW.out.trans (c7.mono BW.out.size))
            have hblw := HOL.out.lt
            clear HON HOV5 HA5 HOL HLL bW BW HBw
            go_upto_region 20 with fail
            clear cn cv
            generalize wr.alloc (.cells #[.int .i64 c, .slice none 0 0, .int .i64 0, .int .i64 0] 29) = w7 at *
            generalize wr.heap.size = bw at *
            have HSD := refSend_room c (.slice none 0 0) (.slice none 0 0) [] [] 0 0 ⟨0, 0, 0, 0, 0⟩ 0 0 (by decide) (by decide) (by simp; omega) (by decide) w7 (SentAt.nil _ _ _) (Nat.zero_le _) (.inr IntsAt.nil)
            rw [show (max 0 (([] : List Ms).length + 1 - 0)) = 1 from rfl] at HSD
            obtain ⟨c0, c1, c2, c3⟩ := F7.cells
            have HL7 := Lib.hid L7
            have HOL7 := Lib.hid OL7
            have HF7 := Lib.hid F7
            clear L7 OL7 F7
            go_wp2_with fail
            refine HSD.mono ?_
            rintro e w8 ⟨sv, rfl, SN, b8⟩
            obtain ⟨sva, svc, rfl⟩ : ∃ a c', sv = .slice a 1 c' := SN.value
            unfold encL
            clear c0 c1 c2 c3 HSD SN
            have L8 := Lib.hid (HL7.out.later b8)
            have OL8 := Lib.hid (HOL7.out.later b8)
            have F8 := HF7.out.later b8
            have B8 := Lib.hid (B7.out.trans (b8.mono B7.out.size))
            clear HL7 HOL7 HF7 B7 b8
            obtain ⟨c0, c1, c2, c3⟩ := F8.cells
            have f0 := F8.frozen 0
            have f1 := F8.frozen 1
            have f2 := F8.frozen 2
            have f3 := F8.frozen 3
            have G := grown_four w8 bw (.int .i64 c) (.slice sva 1 svc) (.int .i64 0) (.int .i64 1)
            have F9 := F8.store (.int .i64 c) (.slice sva 1 svc) (.int .i64 0) (.int .i64 1)
            have L9 := L8.out.four F8 G (by omega)
            have OL9 := OL8.out.kept G (fun e => by have := Option.some.inj e; omega)
            have B9 := Lib.hid (B8.out.trans ((below_four w8 bw (.int .i64 c) (.slice sva 1 svc) (.int .i64 0) (.int .i64 1)).mono (by omega)))
            clear G
            go_upto_region 21 with fail
            clear c0 c1 c2 c3 f0 f1 f2 f3 F8 L8 OL8 B8
            generalize (((w8.setCell ⟨bw, 0, none⟩ (.int .i64 c)).setCell ⟨bw, 1, none⟩ (.slice sva 1 svc)).setCell ⟨bw, 2, none⟩ (.int .i64 0)).setCell ⟨bw, 3, none⟩ (.int .i64 1) = w9 at *
            have cl := OL9.cell
            obtain ⟨c0, _, _, _⟩ := F9.cells
            have q0 : oQ zss zss.length zss.length = [] := by simp [oQ]
            rw [q0] at L9
            have k9 : LinkOk c [] zss.length hi := ⟨by omega, by omega, by omega, fun m hm => by cases hm⟩
            have HL9 := Lib.hid L9
            clear F9 OL9 L9
            refine wp_region_held_drew (S := fun w' => w'.cell? ⟨bl, 0, none⟩ = some (.pointer (some ⟨b, 0, none⟩)) ∧ w'.cell? ⟨bw, 0, none⟩ = some (.int .i64 c) ∧ Below w9.heap.size w9 w') (by kernel_rfl) ?_ (fun hHeld => ?_)
            · exact ⟨cl, c0, (Below.refl _ _).drew⟩
            have g2 : decide ((hi : Int) ≤ (c : Int)) = true := by simp; omega
            refine wpAnyH_ready (rs := [0]) (by kernel_rfl) (by simp) ?_
            refine AllReadyH.cons rfl (fun K hK => ?_) AllReadyH.nil
            simp only [List.getElem_toArray, List.getElem_cons_zero]
            go_simp
            go_at_call 10
            obtain ⟨h_0, h_1, h_B⟩ := hHeld
            refine (alive18_any _).mono ?_
            rintro e w_b1 ⟨rfl, b1⟩
            go_wp2_with fail
            refine hK.out _ _ ⟨cell_step b1 h_0, cell_step b1 h_1, below_step h_B b1⟩ (fun hHeld => ?_)
            clear hK K h_0 h_1 h_B
            try simp only [Act.put, List.setIfInBounds_toArray, List.set_cons_zero, List.set_cons_succ, List.getElem_toArray, List.getElem_cons_zero, List.getElem_cons_succ]
            refine wpAnyH_take (i := 1) (v := ?v1) rfl (by kernel_rfl) (by kernel_rfl) (by kernel_rfl) (fun _ _ _ h => h) (Or.inl ⟨by rfl, ?hy1⟩) (by assumption) ?rest1
            case hy1 => (intro w hSw; (try dsimp only at hSw); go_simp; (first | done | with_reducible rfl))
            simp only [Act.put, List.setIfInBounds_toArray, List.set_cons_zero, List.set_cons_succ, List.getElem_toArray, List.getElem_cons_zero, List.getElem_cons_succ]
            refine wpAnyH_take (i := 2) (v := ?v2) rfl (by kernel_rfl) (by kernel_rfl) (by kernel_rfl) (fun _ _ _ h => h) (Or.inl ⟨by rfl, ?hy2⟩) (by assumption) ?rest2
            case hy2 => (intro w hSw; (try dsimp only at hSw); go_simp; (first | done | with_reducible rfl))
            simp only [Act.put, List.setIfInBounds_toArray, List.set_cons_zero, List.set_cons_succ, List.getElem_toArray, List.getElem_cons_zero, List.getElem_cons_succ]
            refine wpAnyH_ready (rs := [3]) (by kernel_rfl) (by simp) ?_
            refine AllReadyH.cons rfl (fun K hK => ?_) AllReadyH.nil
            simp only [List.getElem_toArray, List.getElem_cons_zero, List.getElem_cons_succ]
            go_simp
            go_at_call 21
            obtain ⟨h_0, h_1, h_B⟩ := hHeld
            refine (linkLenB b c zss.length hi [] _ (HL9.out.later h_B) k9).mono ?_
            rintro e w_b2 ⟨rfl, b2⟩
            go_wp2_with fail
            refine hK.out _ _ ⟨cell_step b2 h_0, cell_step b2 h_1, below_step h_B b2⟩ (fun hHeld => ?_)
            clear hK K h_0 h_1 h_B
            try simp only [Act.put, List.setIfInBounds_toArray, List.set_cons_zero, List.set_cons_succ, List.getElem_toArray, List.getElem_cons_zero, List.getElem_cons_succ]
            refine wpAnyH_take (i := 4) (v := ?v3) rfl (by kernel_rfl) (by kernel_rfl) (by kernel_rfl) (fun _ _ _ h => h) (Or.inl ⟨by rfl, ?hy3⟩) (by assumption) ?rest3
            case hy3 => (intro w hSw; (try dsimp only at hSw); go_simp; (first | done | with_reducible rfl))
            simp only [Act.put, List.setIfInBounds_toArray, List.set_cons_zero, List.set_cons_succ, List.getElem_toArray, List.getElem_cons_zero, List.getElem_cons_succ]
            refine wpAnyH_take (i := 5) (v := ?v4) rfl (by kernel_rfl) (by kernel_rfl) (by kernel_rfl) (fun _ _ _ h => h) (Or.inl ⟨by rfl, ?hy4⟩) (by assumption) ?rest4
            case hy4 => (intro w hSw; (try dsimp only at hSw); go_simp; (first | done | with_reducible rfl))
            simp only [Act.put, List.setIfInBounds_toArray, List.set_cons_zero, List.set_cons_succ, List.getElem_toArray, List.getElem_cons_zero, List.getElem_cons_succ]
            refine wpAnyH_take (i := 6) (v := ?v5) rfl (by kernel_rfl) (by kernel_rfl) (by kernel_rfl) (fun _ _ _ h => h) (Or.inl ⟨by rfl, ?hy5⟩) (by assumption) ?rest5
            case hy5 => (intro w hSw; (try dsimp only at hSw); go_simp; (first | done | with_reducible rfl))
            simp only [Act.put, List.setIfInBounds_toArray, List.set_cons_zero, List.set_cons_succ, List.getElem_toArray, List.getElem_cons_zero, List.getElem_cons_succ]
            refine wpAnyH_take (i := 7) (v := ?v6) rfl (by kernel_rfl) (by kernel_rfl) (by kernel_rfl) (fun _ _ _ h => h) (Or.inl ⟨by rfl, ?hy6⟩) (by assumption) ?rest6
            case hy6 => (intro w hSw; (try dsimp only at hSw); go_simp; (first | done | with_reducible rfl))
            simp only [Act.put, List.setIfInBounds_toArray, List.set_cons_zero, List.set_cons_succ, List.getElem_toArray, List.getElem_cons_zero, List.getElem_cons_succ]
            refine wpAnyH_take (i := 9) (v := ?v7) rfl (by kernel_rfl) (by kernel_rfl) (by kernel_rfl) (fun _ _ _ h => h) (Or.inl ⟨by rfl, ?hy7⟩) (by assumption) ?rest7
            case hy7 => (intro w hSw; (try dsimp only at hSw); go_simp; (first | done | with_reducible rfl))
            simp only [Act.put, List.setIfInBounds_toArray, List.set_cons_zero, List.set_cons_succ, List.getElem_toArray, List.getElem_cons_zero, List.getElem_cons_succ]
            refine wpAnyH_take (i := 10) (v := ?v8) rfl (by kernel_rfl) (by kernel_rfl) (by kernel_rfl) (fun _ _ _ h => h) (Or.inl ⟨by rfl, ?hy8⟩) (by assumption) ?rest8
            case hy8 => (intro w hSw; (try dsimp only at hSw); go_simp; (first | done | with_reducible rfl))
            simp only [Act.put, List.setIfInBounds_toArray, List.set_cons_zero, List.set_cons_succ, List.getElem_toArray, List.getElem_cons_zero, List.getElem_cons_succ]
            refine wpAnyH_ready (rs := [8]) (by kernel_rfl) (by simp) ?_
            refine AllReadyH.cons rfl (fun K hK => ?_) AllReadyH.nil
            simp only [List.getElem_toArray, List.getElem_cons_zero, List.getElem_cons_succ]
            go_simp
            go_at_call 22
            obtain ⟨h_0, h_1, h_B⟩ := hHeld
            refine (linkPeak b c zss.length hi [] _ (HL9.out.later h_B)).mono ?_
            rintro e w_b3 ⟨rfl, b3⟩
            go_wp2_with fail
            refine hK.out _ _ ⟨cell_step b3 h_0, cell_step b3 h_1, below_step h_B b3⟩ (fun hHeld => ?_)
            clear hK K h_0 h_1 h_B
            try simp only [Act.put, List.setIfInBounds_toArray, List.set_cons_zero, List.set_cons_succ, List.getElem_toArray, List.getElem_cons_zero, List.getElem_cons_succ]
            refine wpAnyH_take (i := 11) (v := ?v9) rfl (by kernel_rfl) (by kernel_rfl) (by kernel_rfl) (fun _ _ _ h => h) (Or.inl ⟨by rfl, ?hy9⟩) (by assumption) ?rest9
            case hy9 => (intro w hSw; (try dsimp only at hSw); go_simp; (first | done | with_reducible rfl))
            simp only [Act.put, List.setIfInBounds_toArray, List.set_cons_zero, List.set_cons_succ, List.getElem_toArray, List.getElem_cons_zero, List.getElem_cons_succ]
            refine wpAnyH_take (i := 12) (v := ?v10) rfl (by kernel_rfl) (by kernel_rfl) (by kernel_rfl) (fun _ _ _ h => h) (Or.inl ⟨by rfl, ?hy10⟩) (by assumption) ?rest10
            case hy10 => (intro w hSw; (try dsimp only at hSw); go_simp; (first | done | with_reducible rfl))
            simp only [Act.put, List.setIfInBounds_toArray, List.set_cons_zero, List.set_cons_succ, List.getElem_toArray, List.getElem_cons_zero, List.getElem_cons_succ]
            refine wpAnyH_take (i := 13) (v := ?v11) rfl (by kernel_rfl) (by kernel_rfl) (by kernel_rfl) (fun _ _ _ h => h) (Or.inl ⟨by rfl, ?hy11⟩) (by assumption) ?rest11
            case hy11 => (intro w hSw; (try dsimp only at hSw); go_simp; (first | done | with_reducible rfl))
            simp only [Act.put, List.setIfInBounds_toArray, List.set_cons_zero, List.set_cons_succ, List.getElem_toArray, List.getElem_cons_zero, List.getElem_cons_succ]
            refine wpAnyH_done (by kernel_rfl) ?_ _
            obtain ⟨_, _, hBZ⟩ := hHeld
            have HZ9 := Lib.hid (B9.out.trans (hBZ.mono B9.out.size))
            clear hBZ
            go_wp2_with fail
            go_ret
            exact ⟨rfl, HZ9.out⟩
end Go.Proofs.Ytgbgmmakiimbbaa
