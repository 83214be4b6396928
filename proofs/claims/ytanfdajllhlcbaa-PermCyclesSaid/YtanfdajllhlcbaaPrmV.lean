/- Layer 6: the reference's Cycles. -/
import Derived.Test.YtanfdajllhlcbaaPrmU
namespace Go.Proofs.Ytanfdajllhlcbaa
open Go.RowKit Go.Maps
set_option linter.unusedVariables false
theorem leastTo_one (p : List Int) (i : Nat) : leastTo p i 1 = true := by
  unfold leastTo
  simp [List.range_succ]
set_option maxHeartbeats 4000000 in
theorem refCycles_any (v : Value) (p : List Int) (hp : p.length ≤ 1048576) (w : World) (hv : IntsAt .i64 w.heap.size w v p) :
    Calls Try.prog 27 #[v] w (CyclesOk p w) := by
  obtain ⟨a, c, rfl⟩ := ints_value hv
  have HP := Lib.hid (fun W h => refValid_any (.slice a p.length c) p hp W h)
  have HV := Lib.hid hv
  unfold CyclesOk
  clear hv
  cases hval : validB p
  · rw [hval] at HP
    clear hval
    go_enter Try.func27, Try.ntmps27
    go_wp2_with fail
    refine (HP.out _ HV.out).mono ?_
    rintro e w1 ⟨rfl, rfl⟩
    go_wp2_with fail
    go_ret2
    exact ⟨_, rfl, ListsAt.nil _ _, Below.refl _ _⟩
  · rw [hval] at HP
    have HVB := Lib.hid hval
    clear hval
    go_enter Try.func27, Try.ntmps27
    go_wp2_with fail
    refine (HP.out _ HV.out).mono ?_
    rintro e w1 ⟨rfl, rfl⟩
    clear HP
    have L2 := Lib.hid (show ListsAt w.heap.size w (.slice none 0 0) (cycsTo p 0) from ListsAt.nil _ _)
    have B2 := Lib.hid (Below.refl w.heap.size w)
    go_wp2_with fail
    go_loopw [4, 5, 6, 7, 8] (fun out iv _ _ _ wr => ∃ i : Nat, i ≤ p.length ∧ iv = .int .i64 i ∧ Hid (ListsAt w.heap.size wr out (cycsTo p i)) ∧ Hid (Below w.heap.size w wr)) (fun _ iv _ _ _ _ => p.length - (intOf iv).toNat)
    case atStart => exact ⟨0, Nat.zero_le _, rfl, L2, B2⟩
    case round =>
      obtain ⟨i, hi, rfl, HL, HB⟩ := hrel
      clear L2 B2
      by_cases hlt : i < p.length
      · have HPS := Lib.hid (per_spec HVB.out hlt)
        have HIL := Lib.hid (fun k => it_lt HVB.out hlt k)
        have HFA := Lib.hid (fun x hx => f_at HVB.out (x := x) hx)
        have HPE := Lib.hid (show cycL p i = cycTo p i (perP p i) from rfl)
        have HLE := Lib.hid (show leastB p i = leastTo p i (perP p i) from rfl)
        rcases HV.out.form with ⟨_, e0⟩ | ⟨b', off, cap, e0, hc, hb', hcs⟩
        · rw [e0] at hlt; cases hlt
        cases e0
        have HCS := Lib.hid hcs
        have cp := (HB.out.cell (p := ⟨b', off + i, none⟩) hb').trans (hcs _ hlt)
        rw [show p[i]?.getD 0 = (itP p i 1 : Int) from (HFA.out i hlt).1] at cp
        have hbo := World.block_lt_of_cell? _ _ cp
        have R0 := Lib.hid (show (wr.alloc (.cells #[.int .i64 (i : Int)] 3)).ownsRow wr.heap.size 3 1 (.slice (some ⟨wr.heap.size, 0, none⟩) 1 1) 1 ((cycTo p i 1).map (Value.int .i64)) from World.ownsRow_lit (w := wr) (e := 3) (size := 1) (base := wr.heap.size) #[.int .i64 (i : Int)] 1 (Nat.le_refl _) (by unfold maxLen; omega) rfl)
        have G0 := Lib.hid ((Below.refl wr.heap.size wr).alloc (Nat.le_refl _) (.cells #[.int .i64 (i : Int)] 3))
        have HLT := Lib.hid (leastTo_one p i)
        have hpp := HPS.out.1
        generalize perP p i = per at *
        clear hcs
        go_upto_region 10 with fail
        clear cp hbo
        generalize wr.alloc (.cells #[.int .i64 (i : Int)] 3) = w1 at *
        generalize wr = wo at *
        go_loopw [6, 7, 8] (fun bl l x w' => ∃ j : Nat, 1 ≤ j ∧ j ≤ per ∧ bl = .bool (leastTo p i j) ∧ x = .int .i64 (itP p i j : Int) ∧ Hid (w'.ownsRow wo.heap.size 3 1 l j ((cycTo p i j).map (Value.int .i64))) ∧ Hid (Below wo.heap.size wo w')) (fun _ l _ _ => per - sliceLen l)
        case atStart => exact ⟨1, Nat.le_refl _, hpp.1, by rw [HLT.out], rfl, R0, G0⟩
        case round =>
          obtain ⟨j, hj1, hj, rfl, rfl, HR, HG⟩ := hrel
          have hbs := HG.out.size
          by_cases hjl : j < per
          · have hxl := HIL.out j
            have hxi := HPS.out.2.2 j hj1 hjl
            have hfx : p[itP p i j]?.getD 0 = (itP p i (j + 1) : Int) := (HFA.out _ hxl).1
            have HE := Lib.hid (show (cycTo p i (j + 1)).map (Value.int .i64) = (cycTo p i j).map (Value.int .i64) ++ [.int .i64 (itP p i j : Int)] by rw [cycTo_succ, List.map_append]; rfl)
            have HLS := Lib.hid (leastTo_succ p i j hj1)
            have cp := (HB.out.cell (p := ⟨b', off + itP p i j, none⟩) hb').trans (HCS.out _ hxl)
            rw [hfx] at cp
            have hbo := World.block_lt_of_cell? _ _ cp
            have HSL := Lib.hid (own_value HR.out)
            clear hfx
            generalize itP p i j = x at *
            generalize hy : itP p i (j + 1) = y at *
            have HY := Lib.hid hy
            clear hy
            have g1 : ((x : Int) != (i : Int)) = true := by simp; omega
            clear hxi
            obtain ⟨al, cl, rfl⟩ := HSL.out
            go_upto_region 13 with (at_builtin; refine append_one elemI rfl _ _ rfl rfl rfl HR.out rfl ?_ ?_ ?_ ?_ ?_; (simp [Value.oneCell']); (unfold maxLen; omega); omega; (exact hbs); intro v' w5 ho' hg'; have hg2 := Lib.hid (show wr.grownBy w5 (Value.slice al j cl).ownBlock from hg'); clear hg'; have HO5 := Lib.hid ho'; clear ho')
            have BX := (Below.refl wo.heap.size wr).grown hg2.out hbs (fun k e => (HR.out.lt k e).1)
            have G5 := Lib.hid (HG.out.trans BX)
            have c5 := (G5.out.cell (p := ⟨b', off + x, none⟩) hbo).trans cp
            have hb5 := World.block_lt_of_cell? _ _ c5
            have R5 := Lib.hid (show w5.ownsRow wo.heap.size 3 1 v' (j + 1) ((cycTo p i (j + 1)).map (Value.int .i64)) by rw [HE.out]; exact HO5.out)
            obtain ⟨a5, c5', rfl⟩ := own_value R5.out
            clear cp BX HO5 hg2
            cases hlv : leastTo p i j
            · rw [hlv] at HLS
              have HLN := Lib.hid (show leastTo p i (j + 1) = false by rw [HLS.out]; rfl)
              clear hlv
              go_wp2_with fail
              go_roundw
              case rel => exact ⟨j + 1, by omega, by omega, by rw [HLN.out], by rw [HY.out], R5, G5⟩
              case measure => simp [sliceLen]; omega
            · rw [hlv] at HLS
              have HLN := Lib.hid (show leastTo p i (j + 1) = decide (i < x) by rw [HLS.out, Bool.true_and])
              clear hlv
              go_wp2_with fail
              go_roundw
              case rel => exact ⟨j + 1, by omega, by omega, by rw [HLN.out], by rw [HY.out], R5, G5⟩
              case measure => simp [sliceLen]; omega
          · have hje : j = per := by omega
            subst hje
            rw [HPS.out.2.1]
            have HL5 := Lib.hid (HL.out.later HG.out)
            have HB5 := Lib.hid (below_step HB.out HG.out)
            have hws : w.heap.size ≤ wr.heap.size := HB5.out.size
            have hwo := HB.out.size
            clear hjl
            cases hlv : leastTo p i j
            · have HLN := Lib.hid (show ListsAt w.heap.size wr u4 (cycsTo p (i + 1)) by rw [cycs_no (HLE.out.trans hlv)]; exact HL5.out)
              clear hlv
              go_wp2_with fail
              go_roundw
              case rel => exact ⟨i + 1, by omega, by go_num, HLN, HB5⟩
              case measure => simp [intOf]; omega
            · have HLV := Lib.hid (HLE.out.trans hlv)
              obtain ⟨us, h1, h2, h3⟩ := HL5.out
              have H1 := Lib.hid h1
              have H2 := Lib.hid h2
              have H3 := Lib.hid h3
              have HC := Lib.hid (show wr.ownsRow w.heap.size 3 1 u7 (cycL p i).length ((cycL p i).map (Value.int .i64)) by rw [HPE.out, cycTo_length]; exact owns_mono hwo HR.out)
              obtain ⟨al, cl, rfl⟩ := own_value HR.out
              have hlen := cycsTo_length p i
              clear hlv h1 h2 h3
              go_upto_region 6 with (at_builtin; refine append_one elemL rfl _ _ rfl rfl rfl H2.out rfl ?_ ?_ ?_ ?_ ?_; (simp [Value.oneCell']); (unfold maxLen; omega); omega; (exact hws); intro v' w5 ho' hg'; have hg2 := Lib.hid (show wr.grownBy w5 u4.ownBlock from hg'); clear hg'; have HO5 := Lib.hid ho'; clear ho')
              have L6 := Lib.hid (show ListsAt w.heap.size w5 v' (cycsTo p (i + 1)) by rw [cycs_yes HLV.out]; exact ListsAt.snoc H1.out H2.out H3.out HC.out HO5.out hg2.out)
              have B6 := Lib.hid (HB5.out.grown hg2.out hws (fun k e => (H2.out.lt k e).1))
              clear H1 H2 H3 HC HO5 hg2 HR HG
              go_wp2_with fail
              go_roundw
              case rel => exact ⟨i + 1, by omega, by go_num, L6, B6⟩
              case measure => simp [intOf]; omega
      · have hie : i = p.length := by omega
        subst hie
        go_wp2_with fail
        go_ret2
        exact ⟨_, rfl, HL.out, HB.out⟩
def sumTo (ls : List (List Int)) (k : Nat) : Nat := ((ls.take k).map List.length).sum
theorem sumTo_succ {ls : List (List Int)} {k : Nat} (h : k < ls.length) : sumTo ls (k + 1) = sumTo ls k + (ls[k]?.getD []).length := by
  unfold sumTo
  rw [List.take_succ_eq_append_getElem h, List.map_append, List.sum_append, List.getElem?_eq_getElem h]
  simp
theorem sumTo_le (ls : List (List Int)) (k : Nat) : sumTo ls k ≤ sumTo ls ls.length := by
  unfold sumTo
  rw [List.take_length]
  have h := List.take_append_drop k ls
  have h2 : (ls.map List.length).sum = ((ls.take k).map List.length).sum + ((ls.drop k).map List.length).sum := by
    rw [← List.sum_append, ← List.map_append, h]
  omega
set_option maxHeartbeats 4000000 in
theorem walk_cycles (v : Value) (p : List Int) (zp : InW p) (w : World) (hp : p.length ≤ maxLen) (hv : IntsAt .i64 w.heap.size w v p) :
    Calls Try.prog 7 #[v] w fun e w' => e = .returned (.bool true) ∧ Below w.heap.size w w' := by
  obtain ⟨a, c, rfl⟩ := ints_value hv
  unfold maxLen at hp
  by_cases h1 : (200 : Int) < p.length
  · clear hv
    go_enter Try.func7, Try.ntmps7
    go_wp2_with fail
    refine (alive_any _).mono ?_
    rintro e w1 ⟨rfl, b1⟩
    go_wp2_with fail
    go_ret
    exact ⟨rfl, b1⟩
  · have hp20 : p.length ≤ 1048576 := by omega
    have E1 := Lib.hid (fun W h => cycles_any (.slice a p.length c) p hp20 zp W h)
    have E2 := Lib.hid (fun W h => refCycles_any (.slice a p.length c) p hp20 W h)
    have HV := Lib.hid hv
    have HVB := Lib.hid (fun h => lens_all (p := p) h)
    have hlen : (if validB p then cycsTo p p.length else []).length ≤ 200 := by
      have := cycsTo_length p p.length
      split
      · omega
      · simp
    have hsum : sumTo (if validB p then cycsTo p p.length else []) (if validB p then cycsTo p p.length else []).length = if validB p then p.length else 0 := by
      cases h : validB p
      · rfl
      · have := HVB.out h
        unfold lensTo at this
        unfold sumTo
        rw [List.take_length]
        simpa using this
    unfold CyclesOk at E1 E2
    have HSL := Lib.hid (sumTo_le (if validB p then cycsTo p p.length else []))
    have HSM := Lib.hid hsum
    have HSS := Lib.hid (fun k h => sumTo_succ (ls := if validB p then cycsTo p p.length else []) (k := k) h)
    clear hv zp hp hsum HVB
    generalize (if validB p then cycsTo p p.length else []) = ls at *
    generalize validB p = ok at *
    go_enter Try.func7, Try.ntmps7
    go_wp2_with fail
    refine (E1.out _ HV.out).mono ?_
    rintro e w1 ⟨v1, rfl, l1, b1⟩
    have L1 := Lib.hid l1
    have B1 := Lib.hid b1
    have V1 := Lib.hid (HV.out.later b1)
    clear b1 l1
    go_wp2_with fail
    refine (E2.out _ V1.out).mono ?_
    rintro e w2 ⟨v2, rfl, l2, b2⟩
    have K2 := Lib.hid l2
    have L2 := Lib.hid (L1.out.later b2)
    have B2 := Lib.hid (below_step B1.out b2)
    clear b2 l2 E1 E2 L1
    obtain ⟨us, u1, u2, u3⟩ := L2.out
    obtain ⟨xs, x1, x2, x3⟩ := K2.out
    obtain ⟨a1, c1, rfl⟩ := own_value u2
    obtain ⟨a2, c2, rfl⟩ := own_value x2
    have U1 := Lib.hid u1
    have U2 := Lib.hid u2
    have U3 := Lib.hid u3
    have X1 := Lib.hid x1
    have X2 := Lib.hid x2
    have X3 := Lib.hid x3
    have B0 := Lib.hid (Below.refl w2.heap.size w2)
    clear u1 u2 u3 x1 x2 x3 L2 K2
    go_wp2_with fail
    go_loopw [7, 8, 9, 36] (fun n _ _ iv wr => ∃ k : Nat, k ≤ ls.length ∧ iv = .int .i64 k ∧ n = .int .i64 (sumTo ls k : Int) ∧ Hid (Below w2.heap.size w2 wr)) (fun _ _ _ iv _ => ls.length - (intOf iv).toNat)
    case atStart => exact ⟨0, Nat.zero_le _, rfl, rfl, B0⟩
    case round =>
      obtain ⟨k, hk, rfl, rfl, HB⟩ := hrel
      by_cases hlt : k < ls.length
      · obtain ⟨g1, d1, e1, hg1, hg2⟩ := own_some U2.out (by omega)
        obtain ⟨g2, d2, e2, hg3, hg4⟩ := own_some X2.out (by omega)
        cases e1
        cases e2
        have cu := (own_below U2.out HB.out).cellAt k (by omega)
        have cx := (own_below X2.out HB.out).cellAt k (by omega)
        have hku : k < us.length := by rw [U1.out]; exact hlt
        have hkx : k < xs.length := by rw [X1.out]; exact hlt
        have ru := own_below (U3.out k hlt) HB.out
        have rx := own_below (X3.out k hlt) HB.out
        rw [List.getElem?_eq_getElem hku] at cu ru
        rw [List.getElem?_eq_getElem hkx] at cx rx
        rw [Option.getD_some] at ru rx
        have hss := HSS.out k hlt
        have hsl := HSL.out (k + 1)
        have hsm := HSM.out
        have IU := Lib.hid (ints_own ru)
        have IX := Lib.hid (ints_own rx)
        have hbg1 := World.block_lt_of_cell? _ _ cu
        have hbg2 := World.block_lt_of_cell? _ _ cx
        generalize us[k] = cv at *
        generalize xs[k] = dv at *
        generalize ls[k]?.getD [] = l at *
        have HS := Lib.hid hss
        have hb3 : sumTo ls k + l.length ≤ 200 := by
          have : (if ok then p.length else 0) ≤ 200 := by split <;> omega
          omega
        generalize sumTo ls k = s at *
        obtain ⟨ac, cc, rfl⟩ := own_value ru
        obtain ⟨ad, cd, rfl⟩ := own_value rx
        clear hss hsl hsm ru rx hku hkx
        go_wp2_with fail
        refine (equal_same _ _ l (by omega) _ _ _ IU.out IX.out).mono ?_
        rintro e w5 ⟨rfl, b5⟩
        have HB5 := Lib.hid (below_step HB.out b5)
        clear b5 cu cx
        go_wp2_with fail
        go_roundw
        case rel => exact ⟨k + 1, by omega, by go_num, by rw [HS.out, Int.natCast_add], HB5⟩
        case measure => simp [intOf]; omega
      · have hke : k = ls.length := by omega
        subst hke
        have HB5 := Lib.hid (below_step B2.out HB.out)
        have hsm := HSM.out
        clear hlt hk
        generalize sumTo ls ls.length = s at *
        cases ok
        · go_wp2_with fail
          refine (alive_any _).mono ?_
          rintro e w6 ⟨rfl, b6⟩
          go_wp2_with fail
          go_ret
          exact ⟨by first | rfl | (simp; done), below_step HB5.out b6⟩
        · have hs : s = p.length := by simpa using hsm
          subst hs
          clear hsm HSM
          go_wp2_with fail
          refine (alive_any _).mono ?_
          rintro e w6 ⟨rfl, b6⟩
          go_wp2_with fail
          go_ret
          exact ⟨by first | rfl | (simp; done), below_step HB5.out b6⟩
end Go.Proofs.Ytanfdajllhlcbaa
