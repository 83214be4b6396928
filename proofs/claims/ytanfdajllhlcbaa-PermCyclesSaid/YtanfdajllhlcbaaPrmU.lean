/- Layer 6: Cycles. -/
import Derived.Test.YtanfdajllhlcbaaPrmS
import Derived.Test.YtanfdajllhlcbaaPrmQ
namespace Go.Proofs.Ytanfdajllhlcbaa
open Go.RowKit Go.Maps
set_option linter.unusedVariables false
set_option maxHeartbeats 4000000 in
theorem cycles_any (v : Value) (p : List Int) (hp : p.length ≤ 1048576) (zp : InW p) (w : World) (hv : IntsAt .i64 w.heap.size w v p) :
    Calls Try.prog 26 #[v] w (CyclesOk p w) := by
  obtain ⟨a, c, rfl⟩ := ints_value hv
  have hmm := @run_makeMap Try.prog
  have AL := (Below.refl w.heap.size w).alloc (Nat.le_refl _) (.map #[] 0)
  have M0 := Lib.hid (SeenM.zero (p := p) (MapIs.new Try.prog w 3 4))
  have HV0 := Lib.hid (hv.below AL)
  have HV := Lib.hid hv
  have hb1 : w.heap.size < (w.alloc (.map #[] 0)).heap.size := by simp
  have HMK := Lib.hid (mark_any w.heap.size w.heap.size (Nat.le_refl _) _ p hp zp _ HV0.out M0.out)
  unfold CyclesOk
  clear hv zp
  unfold MarkDone at HMK
  cases hval : validB p
  · rw [hval] at HMK
    clear hval
    go_enter Try.func26, Try.ntmps26
    go_wp2_with fail
    refine HMK.out.mono ?_
    rintro e w1 ⟨rfl, -, g1⟩
    have B1 := Lib.hid (AL.grown g1 (Nat.le_of_lt hb1) (fun k e => by cases e; exact Nat.le_refl _))
    clear g1 hmm
    go_wp2_with fail
    go_ret2
    exact ⟨_, rfl, ListsAt.nil _ _, B1.out⟩
  · rw [hval] at HMK
    have HVB := Lib.hid hval
    clear hval
    go_enter Try.func26, Try.ntmps26
    go_wp2_with fail
    refine HMK.out.mono ?_
    rintro e w1 ⟨rfl, ⟨k0, hk0, hm1⟩, g1⟩
    have B1 := AL.grown g1 (Nat.le_of_lt hb1) (fun k e => by cases e; exact Nat.le_refl _)
    have hs1 := g1.size
    obtain ⟨w2, hclr, hm2, g2⟩ := MapIs.clear (t := 63) hm1 Try.underlying63 0
    have hclr' : ∀ ty, (Builtin.clear_ #[63] ty #[.map (some w.heap.size)]).run Try.prog w1 = .ok (.tuple #[]) w2 := fun ty => hclr
    have B2 := Lib.hid (B1.grown g2 (by omega) (fun k e => by cases e; exact Nat.le_refl _))
    have hN2 : w.heap.size + 1 ≤ w2.heap.size := by have := g2.size; omega
    have M2 := Lib.hid (show MapIs Try.prog w2 3 4 w.heap.size 0 (litsB (seenB p 0)) by rw [seen_zero, litsB_false]; exact hm2)
    have L2 := Lib.hid (ListsAt.nil (w.heap.size + 1) w2)
    clear hm1 hm2 g1 g2 B1 hmm AL HMK M0 HV0 hclr hs1 hb1
    go_wp2_with fail
    generalize hB : w.heap.size = b at *
    go_loopw [5, 6, 7, 8, 17] (fun out _ _ _ iv wr => ∃ i cnt : Nat, i ≤ p.length ∧ iv = .int .i64 i ∧ cnt ≤ i * p.length ∧ Hid (MapIs Try.prog wr 3 4 b cnt (litsB (seenB p i))) ∧ Hid (ListsAt (b + 1) wr out (cycsTo p i)) ∧ Hid (Below b w wr) ∧ b + 1 ≤ wr.heap.size) (fun _ _ _ _ iv _ => p.length - (intOf iv).toNat)
    case atStart => exact ⟨0, 0, Nat.zero_le _, rfl, Nat.zero_le _, M2, L2, B2, hN2⟩
    case round =>
      obtain ⟨i, cnt, hi, rfl, hcnt, HM, HL, HB, hbr⟩ := hrel
      clear M2 L2 B2 hN2 hclr'
      by_cases hlt : i < p.length
      · have hsf := seen_first HVB.out hlt
        have hlk := MapIs.look_bool (t := 63) (z := (i : Int)) HM.out Try.underlying3 Try.underlying63 Try.underlying4 (Try.zeroValue4 wr) (wf_of (by omega))
        rw [hsf] at hlk
        have hcm : i * p.length ≤ 1048576 * 1048576 := Nat.mul_le_mul (by omega) hp
        have hci : i * p.length + p.length = (i + 1) * p.length := (Nat.succ_mul _ _).symm
        have HCI := Lib.hid hci
        have HCM := Lib.hid hcm
        have HCN := Lib.hid hcnt
        clear hci hcm hcnt hsf
        cases hl : leastB p i
        · rw [hl] at hlk
          have HM2 := Lib.hid (show MapIs Try.prog wr 3 4 b cnt (litsB (seenB p (i + 1))) by rw [seen_skip HVB.out hlt hl]; exact HM.out)
          have HL2 := Lib.hid (show ListsAt (b + 1) wr u5 (cycsTo p (i + 1)) by rw [cycs_no hl]; exact HL.out)
          clear hl
          go_wp2_with fail
          go_roundw
          case rel => exact ⟨i + 1, cnt, by omega, by go_num, by have := HCI.out; have := HCN.out; omega, HM2, HL2, HB, hbr⟩
          case measure => simp [intOf]; omega
        · rw [hl] at hlk
          have HLB := Lib.hid hl
          clear hl
          have HPS := Lib.hid (per_spec HVB.out hlt)
          have HMN := Lib.hid (fun j hj => mid_new HVB.out (j := j) hlt HLB.out hj)
          have HMS := Lib.hid (mid_stop HVB.out hlt)
          have HMD := Lib.hid (mid_done HVB.out hlt)
          have HIL := Lib.hid (fun k => it_lt HVB.out hlt k)
          have HFA := Lib.hid (fun x hx => f_at HVB.out (x := x) hx)
          have M0 := Lib.hid (show MapIs Try.prog wr 3 4 b (cnt + 0) (litsB (midB p i 0)) by rw [mid_zero]; exact HM.out)
          have R0 := Lib.hid (show wr.ownsRow wr.heap.size 3 1 (.slice none 0 0) 0 ((cycTo p i 0).map (Value.int .i64)) from World.ownsRow_nil _ _ _ _)
          have G0 := Lib.hid (World.grownBy.refl wr (some b))
          have HPE := Lib.hid (show cycL p i = cycTo p i (perP p i) from rfl)
          generalize perP p i = per at *
          generalize wr = wo at *
          go_wp2_with fail
          go_loopw [7, 8] (fun l x w' => ∃ j : Nat, j ≤ per ∧ x = .int .i64 (itP p i j : Int) ∧ Hid (w'.ownsRow wo.heap.size 3 1 l j ((cycTo p i j).map (Value.int .i64))) ∧ Hid (MapIs Try.prog w' 3 4 b (cnt + j) (litsB (midB p i j))) ∧ Hid (wo.grownBy w' (some b))) (fun l _ _ => per - sliceLen l)
          case atStart => exact ⟨0, Nat.zero_le _, rfl, R0, M0, G0⟩
          case round =>
            obtain ⟨j, hj, rfl, HR, HMJ, HG⟩ := hrel
            by_cases hjl : j < per
            · have hxl := HIL.out j
              have hyl := HIL.out (j + 1)
              have hf := HFA.out _ hxl
              have hfx : p[itP p i j]?.getD 0 = (itP p i (j + 1) : Int) := hf.1
              have hlk2 := MapIs.look_bool (t := 63) (z := (itP p i j : Int)) HMJ.out Try.underlying3 Try.underlying63 Try.underlying4 (Try.zeroValue4 wr) (wf_of (by omega))
              rw [HMN.out j hjl] at hlk2
              have hpl := HPS.out.1.2
              obtain ⟨w3, hup, hm3, hg3⟩ := MapIs.put (t := 63) (f' := litsB (midB p i (j + 1))) HMJ.out Try.underlying3 Try.underlying63 (by have := HCM.out; have := HCN.out; unfold maxLen; omega) (wf_of (z := (itP p i j : Int)) (by omega)) (val := .bool true) (plainElem_bool Try.underlying4 true) (litsB_mid p i j)
              have R3 := Lib.hid (row_other HR.out hg3 (fun k e => by cases e; omega))
              have M3 := Lib.hid hm3
              have G3 := Lib.hid (grown_trans HG.out hg3)
              have hs3 : wo.heap.size ≤ w3.heap.size := G3.out.size
              have HE := Lib.hid (show (cycTo p i (j + 1)).map (Value.int .i64) = (cycTo p i j).map (Value.int .i64) ++ [.int .i64 (itP p i j : Int)] by rw [cycTo_succ, List.map_append]; rfl)
              rcases HV.out.form with ⟨_, e0⟩ | ⟨b', off, cap, e0, hc, hb', hcs⟩
              · rw [e0] at hxl; cases hxl
              cases e0
              have cp := (HB.out.cell (p := ⟨b', off + itP p i j, none⟩) hb').trans (hcs _ hxl)
              rw [hfx] at cp
              have hbo := World.block_lt_of_cell? _ _ cp
              have HSL := Lib.hid (own_value HR.out)
              clear hm3 hg3 hf hfx hcs
              generalize itP p i j = x at *
              generalize hy : itP p i (j + 1) = y at *
              have HY := Lib.hid hy
              clear hy
              obtain ⟨al, cl, rfl⟩ := HSL.out
              go_upto_region 13 with (at_builtin; refine append_one elemI rfl _ _ rfl rfl rfl R3.out rfl ?_ ?_ ?_ ?_ ?_; (simp [Value.oneCell']); (unfold maxLen; omega); omega; (exact hs3); intro v' w5 ho' hg'; have hg2 := Lib.hid (show w3.grownBy w5 (Value.slice al j cl).ownBlock from hg'); clear hg'; have HO5 := Lib.hid ho'; clear ho')
              have BX := (Below.refl wo.heap.size w3).grown hg2.out hs3 (fun k e => (R3.out.lt k e).1)
              have M5 := Lib.hid (MapIs.kept M3.out hg2.out (fun e => by have := (R3.out.lt b e.symm).1; omega))
              have G5 := Lib.hid (grown_then G3.out BX)
              have c5 := (grown_cell (o := off + x) G5.out hbo (show b' ≠ b by omega)).trans cp
              have hb5 := World.block_lt_of_cell? _ _ c5
              have R5 := Lib.hid (show w5.ownsRow wo.heap.size 3 1 v' (j + 1) ((cycTo p i (j + 1)).map (Value.int .i64)) by rw [HE.out]; exact HO5.out)
              obtain ⟨a5, c5', rfl⟩ := own_value R5.out
              clear cp BX HO5 hg2 hup hlk2
              go_wp2_with fail
              go_roundw
              case rel => exact ⟨j + 1, by omega, by rw [HY.out], R5, Lib.hid (show MapIs _ _ _ _ _ (cnt + (j + 1)) _ from M5.out), G5⟩
              case measure => simp [sliceLen]; omega
            · have hje : j = per := by omega
              subst hje
              have hlk2 := MapIs.look_bool (t := 63) (z := (itP p i j : Int)) HMJ.out Try.underlying3 Try.underlying63 Try.underlying4 (Try.zeroValue4 wr) (wf_of (by have := HIL.out j; omega))
              rw [HMS.out] at hlk2
              have hpl := HPS.out.1.2
              have hgs := HG.out.size
              obtain ⟨us, h1, h2, h3⟩ := HL.out.kept HG.out (fun k e => by cases e; omega)
              have H1 := Lib.hid h1
              have H2 := Lib.hid h2
              have H3 := Lib.hid h3
              have HC := Lib.hid (show wr.ownsRow (b + 1) 3 1 u7 (cycL p i).length ((cycL p i).map (Value.int .i64)) by rw [HPE.out, cycTo_length]; exact owns_mono hbr HR.out)
              obtain ⟨al, cl, rfl⟩ := own_value HR.out
              have hlen := cycsTo_length p i
              have hbw : b + 1 ≤ wr.heap.size := Nat.le_trans hbr hgs
              clear h1 h2 h3 hjl
              generalize itP p i j = x at *
              go_upto_region 17 with (at_builtin; refine append_one elemL rfl _ _ rfl rfl rfl H2.out rfl ?_ ?_ ?_ ?_ ?_; (simp [Value.oneCell']); (unfold maxLen; omega); omega; (exact hbw); intro v' w5 ho' hg'; have hg2 := Lib.hid (show wr.grownBy w5 u5.ownBlock from hg'); clear hg'; have HO5 := Lib.hid ho'; clear ho')
              have L6 := Lib.hid (show ListsAt (b + 1) w5 v' (cycsTo p (i + 1)) by rw [cycs_yes HLB.out]; exact ListsAt.snoc H1.out H2.out H3.out HC.out HO5.out hg2.out)
              have M6 := Lib.hid (show MapIs Try.prog w5 3 4 b (cnt + j) (litsB (seenB p (i + 1))) by rw [← HMD.out]; exact MapIs.kept HMJ.out hg2.out (fun e => by have := (H2.out.lt b e.symm).1; omega))
              have B6 := Lib.hid ((HB.out.grown HG.out (by omega) (fun k e => by cases e; exact Nat.le_refl _)).grown hg2.out (by omega) (fun k e => by have := (H2.out.lt k e).1; omega))
              have hb6 : b + 1 ≤ w5.heap.size := Nat.le_trans hbw hg2.out.size
              clear H1 H2 H3 HC HO5 hg2 HR HMJ HG hlk2
              go_wp2_with fail
              go_roundw
              case rel => exact ⟨i + 1, cnt + j, by omega, by go_num, by have := HCI.out; have := HCN.out; omega, M6, L6, B6, hb6⟩
              case measure => simp [intOf]; omega
      · have hie : i = p.length := by omega
        subst hie
        go_wp2_with fail
        go_ret2
        exact ⟨_, rfl, HL.out.mono (by omega), HB.out⟩
end Go.Proofs.Ytanfdajllhlcbaa
