/- Layer 10: DataCopies. -/
import Derived.Test.YtcnabebcckbfkaaDoorDatY
import Derived.Test.YtcnabebcckbfkaaDoorDatW
import Derived.Deep.Cut
namespace Go.Proofs.YtcnabebcckbfkaaDoor
open Go.RowKit
set_option linter.unusedVariables false
/-- two examples in a new block -/
theorem exs_two {w : World} {v1 v2 u1 u2 : Value} {x1 y1 x2 y2 : List Int} (h1 : IntsW .i64 w.heap.size w v1 x1) (h2 : IntsW .i64 w.heap.size w v2 y1) (h3 : IntsW .i64 w.heap.size w u1 x2) (h4 : IntsW .i64 w.heap.size w u2 y2) (e : TypeId) :
    ExsAt (w.alloc (.cells #[v1, v2, u1, u2] e)).heap.size (w.alloc (.cells #[v1, v2, u1, u2] e)) (.slice (some ⟨w.heap.size, 0, none⟩) 2 2) [(x1, y1), (x2, y2)] := by
  have b := (Below.refl w.heap.size w).alloc (Nat.le_refl _) (.cells #[v1, v2, u1, u2] e)
  have c := fun j => cell_new w #[v1, v2, u1, u2] e j
  refine .inr ⟨w.heap.size, 0, 2, rfl, Nat.le_refl _, by rw [World.size_alloc]; omega, fun j hj => ?_⟩
  match j, hj with
  | 0, _ => exact ⟨v1, v2, c 0, c 1, h1.later b, h2.later b⟩
  | 1, _ => exact ⟨u1, u2, c 2, c 3, h3.later b, h4.later b⟩
set_option maxHeartbeats 8000000 in
set_option maxRecDepth 8000 in
theorem walk_copies (v1 v2 u1 u2 : Value) (x1 y1 x2 y2 : List Int) (w : World) (ht : Pow10 w)
    (wx1 : ∀ z ∈ x1, -9223372036854775808 ≤ z ∧ z ≤ 9223372036854775807) (wy1 : ∀ z ∈ y1, -9223372036854775808 ≤ z ∧ z ≤ 9223372036854775807) (wx2 : ∀ z ∈ x2, -9223372036854775808 ≤ z ∧ z ≤ 9223372036854775807) (wy2 : ∀ z ∈ y2, -9223372036854775808 ≤ z ∧ z ≤ 9223372036854775807)
    (i1 : IntsW .i64 w.heap.size w v1 x1) (i2 : IntsW .i64 w.heap.size w v2 y1) (i3 : IntsW .i64 w.heap.size w u1 x2) (i4 : IntsW .i64 w.heap.size w u2 y2) :
    Calls Tryd.prog 8 #[.agg #[v1, v2], .agg #[u1, u2]] w fun e w' => e = .returned (.bool true) ∧ Below w.heap.size w w' := by
  obtain ⟨a1, k1, rfl⟩ := i1.value
  obtain ⟨a2, k2, rfl⟩ := i2.value
  obtain ⟨a3, k3, rfl⟩ := i3.value
  obtain ⟨a4, k4, rfl⟩ := i4.value
  have TA0 := Two.new w 24 (.slice a1 x1.length k1) (.slice a2 y1.length k2)
  have b1 := (Below.refl w.heap.size w).alloc (Nat.le_refl _) (.cells #[.slice a1 x1.length k1, .slice a2 y1.length k2] 24)
  have b2 := (Below.refl (w.alloc (.cells #[.slice a1 x1.length k1, .slice a2 y1.length k2] 24)).heap.size _).alloc (Nat.le_refl _) (.cells #[.slice a3 x2.length k3, .slice a4 y2.length k4] 24)
  have TB := Two.new (w.alloc (.cells #[.slice a1 x1.length k1, .slice a2 y1.length k2] 24)) 24 (.slice a3 x2.length k3) (.slice a4 y2.length k4)
  rw [World.size_alloc] at TB
  have TA := TA0.later b2
  have BA := below_step b1 b2
  have HSZ := Lib.hid (show ((w.alloc (.cells #[.slice a1 x1.length k1, .slice a2 y1.length k2] 24)).alloc (.cells #[.slice a3 x2.length k3, .slice a4 y2.length k4] 24)).heap.size = w.heap.size + 2 by rw [World.size_alloc, World.size_alloc])
  have HPW0 := ht.later BA
  have j1 := i1.later BA
  have j2 := i2.later BA
  have j3 := i3.later BA
  have j4 := i4.later BA
  have HBA := Lib.hid BA
  have HW := Lib.hid (And.intro wx1 (And.intro wy1 (And.intro wx2 wy2)))
  have HTT := Lib.hid (And.intro TA TB)
  have HJ := Lib.hid (And.intro j1 (And.intro j2 (And.intro j3 j4)))
  have HPW1 := Lib.hid HPW0
  clear i1 i2 i3 i4 TA0 TA TB b1 b2 BA j1 j2 j3 j4 ht HPW0 wx1 wy1 wx2 wy2
  go_enter Tryd.func8, Tryd.ntmps8
  go_upto_region 1 with fail
  generalize (w.alloc (.cells #[.slice a1 x1.length k1, .slice a2 y1.length k2] 24)).alloc (.cells #[.slice a3 x2.length k3, .slice a4 y2.length k4] 24) = w2 at *
  generalize hN : w.heap.size = N0 at *
  generalize hM : w2.heap.size = M at *
  obtain rfl : M = N0 + 2 := HSZ.out
  have HC := Lib.hid (fun W (hW : Below (N0 + 2) w2 W) => (show (W.cell? ⟨N0, 0, none⟩ = some (.slice a1 x1.length k1) ∧ W.cell? ⟨N0, 1, none⟩ = some (.slice a2 y1.length k2)) ∧ (W.cell? ⟨N0 + 1, 0, none⟩ = some (.slice a3 x2.length k3) ∧ W.cell? ⟨N0 + 1, 1, none⟩ = some (.slice a4 y2.length k4)) from
    ⟨(show Two W N0 _ _ _ from (hW.block N0 (by omega)).trans HTT.out.1).cells, (show Two W (N0 + 1) _ _ _ from (hW.block (N0 + 1) (by omega)).trans HTT.out.2).cells⟩))
  have HI := Lib.hid (fun W (hW : Below (N0 + 2) w2 W) => (show IntsW .i64 W.heap.size W (.slice a1 x1.length k1) x1 ∧ IntsW .i64 W.heap.size W (.slice a2 y1.length k2) y1 ∧ IntsW .i64 W.heap.size W (.slice a3 x2.length k3) x2 ∧ IntsW .i64 W.heap.size W (.slice a4 y2.length k4) y2 from
    have hs : N0 + 2 ≤ W.heap.size := by rw [← hM]; exact (show Below w2.heap.size w2 W by rw [hM]; exact hW).size
    ⟨(HJ.out.1.below hW).grow hs, (HJ.out.2.1.below hW).grow hs, (HJ.out.2.2.1.below hW).grow hs, (HJ.out.2.2.2.below hW).grow hs⟩))
  have HP := Lib.hid (fun W (hW : Below (N0 + 2) w2 W) => HPW1.out.later (show Below w2.heap.size w2 W by rw [hM]; exact hW))
  have HA := Lib.hid (fun W hW => alive10_any W (HP.out W hW))
  have HMS := Lib.hid (fun W (hW : Below (N0 + 2) w2 W) => (show N0 + 2 ≤ W.heap.size by rw [← hM]; exact (show Below w2.heap.size w2 W by rw [hM]; exact hW).size))
  clear HJ HTT HPW1 HSZ
  obtain ⟨⟨c0, c1⟩, c2, c3⟩ := HC.out w2 (Below.refl _ _)
  have hI2 := HI.out w2 (Below.refl _ _)
  have bF := (Below.refl w2.heap.size w2).alloc (Nat.le_refl _) (.cells #[.slice a1 x1.length k1, .slice a2 y1.length k2, .slice a3 x2.length k3, .slice a4 y2.length k4] 24)
  have hEx := exs_two hI2.1 hI2.2.1 hI2.2.2.1 hI2.2.2.2 24
  have HF := Lib.hid (fewX_any _ [(x1, y1), (x2, y2)] (by simp [maxLen]) _ hEx)
  unfold FewX at HF
  have DF := Lib.hid (show Below (N0 + 2) w2 _ by rw [← hM]; exact bF)
  clear hI2 bF hEx
  go_wp2_with fail
  rw [hM] at HF
  generalize w2.alloc (.cells #[.slice a1 x1.length k1, .slice a2 y1.length k2, .slice a3 x2.length k3, .slice a4 y2.length k4] 24) = w3 at *
  refine HF.out.mono ?_
  rintro e w4 ⟨⟨b, rfl, hb⟩, b4⟩
  have D4 := Lib.hid (DF.out.trans (b4.mono (HMS.out _ DF.out)))
  have HFB := Lib.hid hb
  clear HF b4 hb DF c0 c1 c2 c3
  cases b
  · go_wp2_with fail
    refine (HA.out _ D4.out).mono ?_
    rintro e w5 ⟨rfl, b5⟩
    have B5 := HBA.out.trans ((D4.out.trans (b5.mono (HMS.out _ D4.out))).mono (by omega))
    clear D4 b5 HA
    go_wp2_with fail
    go_ret
    exact ⟨rfl, by first | exact B5 | (rw [hN]; exact B5)⟩
  · obtain ⟨_, hlens⟩ := HFB.out rfl
    have l0 := hlens 0 (by simp)
    have l1 := hlens 1 (by simp)
    have p1 : x1.length ≤ 600 := l0.1
    have p2 : y1.length ≤ 600 := l0.2
    have p3 : x2.length ≤ 600 := l1.1
    have p4 : y2.length ≤ 600 := l1.2
    have HTS := Lib.hid (texts_same x1 y1 x2 y2)
    have HSR := Lib.hid (fun W (hW : Below (N0 + 2) w2 W) => sameG_any (.slice a1 x1.length k1) (.slice a2 y1.length k2) (.slice a3 x2.length k3) (.slice a4 y2.length k4) x1 y1 x2 y2 (by omega) (by omega) (by omega) (by omega) W (HI.out W hW).1 (HI.out W hW).2.1 (HI.out W hW).2.2.1 (HI.out W hW).2.2.2)
    have HSD := Lib.hid (fun W (hW : Below (N0 + 2) w2 W) => sameD_any (.slice a1 x1.length k1) (.slice a2 y1.length k2) (.slice a3 x2.length k3) (.slice a4 y2.length k4) x1 y1 x2 y2 (by omega) (by omega) (by omega) (by omega) W (HI.out W hW).1 (HI.out W hW).2.1 (HI.out W hW).2.2.1 (HI.out W hW).2.2.2)
    have HSA := Lib.hid (fun W (hW : Below (N0 + 2) w2 W) => sameD_any (.slice a1 x1.length k1) (.slice a2 y1.length k2) (.slice a1 x1.length k1) (.slice a2 y1.length k2) x1 y1 x1 y1 (by omega) (by omega) (by omega) (by omega) W (HI.out W hW).1 (HI.out W hW).2.1 (HI.out W hW).1 (HI.out W hW).2.1)
    rw [sameL_self, sameL_self, Bool.and_self] at HSA
    have HXA := Lib.hid (fun W (hW : Below (N0 + 2) w2 W) => textO_any (.slice a1 x1.length k1) (.slice a2 y1.length k2) x1 y1 (by omega) (by omega) HW.out.1 HW.out.2.1 W (HP.out W hW) (HI.out W hW).1 (HI.out W hW).2.1)
    have HXB := Lib.hid (fun W (hW : Below (N0 + 2) w2 W) => textO_any (.slice a3 x2.length k3) (.slice a4 y2.length k4) x2 y2 (by omega) (by omega) HW.out.2.2.1 HW.out.2.2.2 W (HP.out W hW) (HI.out W hW).2.2.1 (HI.out W hW).2.2.2)
    generalize (sameL x1 x2 && sameL y1 y2) = sm at *
    generalize okT x1 y1 = okA at *
    generalize okT x2 y2 = okB at *
    generalize textO x1 y1 = tA at *
    generalize textO x2 y2 = tB at *
    have hsm : (sm == sm) = true := by simp
    clear hlens l0 l1 HFB HW
    obtain ⟨⟨c0, c1⟩, c2, c3⟩ := HC.out w4 D4.out
    go_wp2_with fail
    refine (HSR.out _ D4.out).mono ?_
    rintro e w5 ⟨rfl, b5⟩
    have D5 := Lib.hid (D4.out.trans (b5.mono (HMS.out _ D4.out)))
    clear HSR D4 b5 c0 c1 c2 c3
    obtain ⟨⟨c0, c1⟩, c2, c3⟩ := HC.out w5 D5.out
    go_wp2_with fail
    refine (HXA.out _ D5.out).mono ?_
    rintro e w6 ⟨rfl, b6⟩
    have D6 := Lib.hid (D5.out.trans (b6.mono (HMS.out _ D5.out)))
    clear HXA D5 b6 c0 c1 c2 c3
    obtain ⟨⟨c0, c1⟩, c2, c3⟩ := HC.out w6 D6.out
    go_wp2_with fail
    refine (HXB.out _ D6.out).mono ?_
    rintro e w7 ⟨rfl, b7⟩
    have D7 := Lib.hid (D6.out.trans (b7.mono (HMS.out _ D6.out)))
    clear HXB D6 b7 c0 c1 c2 c3
    obtain ⟨⟨c0, c1⟩, c2, c3⟩ := HC.out w7 D7.out
    have hI7 := HI.out w7 D7.out
    have b8 := (Below.refl w7.heap.size w7).alloc (Nat.le_refl _) (.cells #[.slice a1 x1.length k1, .slice a2 y1.length k2, .slice a3 x2.length k3, .slice a4 y2.length k4] 24)
    have HE8 := Lib.hid (exs_two hI7.1 hI7.2.1 hI7.2.2.1 hI7.2.2.2 24)
    have D8 := Lib.hid (D7.out.trans (b8.mono (HMS.out _ D7.out)))
    have HLL := Lib.hid (show ∀ k, k < ([(x1, y1), (x2, y2)] : List Ex).length → (exAt [(x1, y1), (x2, y2)] k).1.length ≤ 1000000 ∧ (exAt [(x1, y1), (x2, y2)] k).2.length ≤ 1000000 from fun k hk => by
      match k, hk with
      | 0, _ => exact ⟨show x1.length ≤ 1000000 by omega, show y1.length ≤ 1000000 by omega⟩
      | 1, _ => exact ⟨show x2.length ≤ 1000000 by omega, show y2.length ≤ 1000000 by omega⟩)
    have HCL := Lib.hid (refCloneX_any _ [(x1, y1), (x2, y2)] (by simp) HLL.out _ HE8.out)
    clear hI7 b8 D7
    go_wp2_with fail
    generalize w7.alloc (.cells #[.slice a1 x1.length k1, .slice a2 y1.length k2, .slice a3 x2.length k3, .slice a4 y2.length k4] 24) = w8 at *
    clear c0 c1 c2 c3
    refine HCL.out.mono ?_
    rintro e w9 h9
    obtain ⟨ov, cells, rfl, h3⟩ := h9.out
    clear h9 HCL HE8
    have hes2 : ([(x1, y1), (x2, y2)] : List Ex).length = 2 := rfl
    have HEX := Lib.hid (fun W (hW : Below (N0 + 2) w2 W) => exs_two (HI.out W hW).1 (HI.out W hW).2.1 (HI.out W hW).2.2.1 (HI.out W hW).2.2.2 24)
    generalize ([(x1, y1), (x2, y2)] : List Ex) = es at *
    have h60 : es.length ≤ 60 := by omega
    have HL2 := Lib.hid hes2
    clear hes2
    have nM := HMS.out _ D8.out
    generalize hNN : w8.heap.size = N at *
    have n2 : N ≤ w9.heap.size := by have := h3.out.2.2.size; omega
    have D9 := Lib.hid (D8.out.trans (h3.out.2.2.mono nM))
    have HE9 := Lib.hid (h3.out.2.1.pairsA.exs h3.out.1 (Nat.le_refl _))
    have HDC := Lib.hid (dataClone_any ov es (by omega) HLL.out w9 HE9.out)
    obtain ⟨oa, oc, rfl⟩ := own_value h3.out.1
    have HRW := Lib.hid h3.out.2.1.rows
    have HO := Lib.hid h3.out.1
    clear h3 D8 HE9
    go_wp2_with fail
    refine HDC.out.mono ?_
    rintro e w4 h10
    obtain ⟨cv, ccells, rfl, h5⟩ := h10.out
    clear h10 HDC
    have D4 := Lib.hid (D9.out.trans (h5.out.2.2.mono (by omega)))
    have HIB := Lib.hid HRW.out.2
    have X0 := Lib.hid (show Copies N w9.heap.size w4 (.slice oa es.length oc) es.length cells w4 from ⟨own_below HO.out h5.out.2.2, HRW.out.1.later h5.out.2.2, Mut.refl _ _ _⟩)
    have n4 : w9.heap.size ≤ w4.heap.size := h5.out.2.2.size
    obtain ⟨ca, cc, rfl⟩ := own_value h5.out.1
    have HCC := Lib.hid (And.intro h5.out.1 h5.out.2.1)
    generalize w9.heap.size = N' at *
    clear h5 HRW HO D9
    go_wp2_with fail
    go_loopw [12, 13, 14, 42] (fun _ _ _ iv wr => ∃ k : Nat, k ≤ es.length ∧ iv = .int .i64 k ∧ Hid (Copies N N' w4 (.slice oa es.length oc) es.length cells wr)) (fun _ _ _ iv _ => es.length - (intOf iv).toNat)
    case atStart => exact ⟨0, Nat.zero_le _, rfl, X0⟩
    case round =>
      clear X0
      obtain ⟨k, hk, rfl, HX⟩ := hrel
      by_cases hlt : k < es.length
      · obtain ⟨gb, bc, e, _, _⟩ := own_some HX.out.1 (by omega)
        simp only [Value.slice.injEq] at e
        obtain ⟨rfl, _, rfl⟩ := e
        have k0 : (0 : Int) ≤ (k : Int) := by omega
        have k1' : (k : Int) < (es.length : Int) := by omega
        have k2' : k ≤ 60 := by omega
        obtain ⟨ux, hcx⟩ : ∃ u, cells[(k * 2)]? = some u := ⟨_, List.getElem?_eq_getElem (by have := HX.out.1.1; omega)⟩
        obtain ⟨zs0, ho0⟩ := HX.out.2.1 _ _ hcx
        obtain ⟨gax, gcx, rfl⟩ := own_value ho0
        have hlenx : zs0.length ≤ maxLen := by
          rcases ho0.2 with ⟨_, h0⟩ | ⟨_, _, _, _, _, _, h1, h2, _⟩
          · rw [h0]; exact Nat.zero_le _
          · exact Nat.le_trans h1 h2
        have dc := (HX.out.1.cellAt (k * 2) (by omega)).trans hcx
        have X1 := HX
        unfold maxLen at hlenx
        clear ho0 HX
        go_wp2_with fail
        generalize wr = wox at *
        go_loopw [13, 51] (fun _ iv w5 => ∃ j : Nat, j ≤ zs0.length ∧ iv = .int .i64 j ∧ Hid (Copies N N' w4 (.slice (some ⟨gb, 0, none⟩) es.length oc) es.length cells w5)) (fun _ iv _ => zs0.length - (intOf iv).toNat)
        case atStart => exact ⟨0, Nat.zero_le _, rfl, X1⟩
        case round =>
          clear X1 dc
          obtain ⟨j, hj, rfl, HY⟩ := hrel
          have dc := (HY.out.1.cellAt (k * 2) (by omega)).trans hcx
          by_cases hltx : j < zs0.length
          · obtain ⟨zs1, ho1⟩ := HY.out.2.1 _ _ hcx
            obtain ⟨a', c', e⟩ := own_value ho1
            have hz1 : zs1.length = zs0.length := by simp only [Value.slice.injEq] at e; exact e.2.1.symm
            clear e
            rw [hz1] at ho1
            obtain ⟨g, cg, e, hg1, hg2⟩ := own_some ho1 (by omega)
            simp only [Value.slice.injEq] at e
            obtain ⟨rfl, _, rfl⟩ := e
            have cz := ho1.cellAt j (by omega)
            have cf := ho1.frozenAt j
            have cz' : (intsV zs1)[j]? = some (.int .i64 (zs1[j]?.getD 0)) := by
              unfold intsV
              rw [List.getElem?_map, List.getElem?_eq_getElem (by omega)]
              rfl
            rw [cz'] at cz
            have i0 : (0 : Int) ≤ (j : Int) := by omega
            have i1 : (j : Int) < (zs0.length : Int) := by omega
            have X9 := Lib.hid (HY.out.set (k := j) (z := wrap64 (zs1[j]?.getD 0 + 1)) HIB.out hcx rfl)
            clear ho1 cz' HY
            generalize zs1[j]?.getD 0 = z at *
            go_wp2_with fail
            generalize wr.setCell ⟨g, j, none⟩ (.int .i64 (wrap64 (z + 1))) = w6 at *
            try go_wp2_with fail
            go_roundw
            case rel => exact ⟨j + 1, by omega, by go_num, X9⟩
            case measure => simp [intOf]; omega
          · have hje : j = zs0.length := by omega
            subst hje
            have HX := HY
            clear HY
            clear dc
            obtain ⟨uy, hcy⟩ : ∃ u, cells[(k * 2 + 1)]? = some u := ⟨_, List.getElem?_eq_getElem (by have := HX.out.1.1; omega)⟩
            obtain ⟨zt0, ho0⟩ := HX.out.2.1 _ _ hcy
            obtain ⟨gay, gcy, rfl⟩ := own_value ho0
            have hleny : zt0.length ≤ maxLen := by
              rcases ho0.2 with ⟨_, h0⟩ | ⟨_, _, _, _, _, _, h1, h2, _⟩
              · rw [h0]; exact Nat.zero_le _
              · exact Nat.le_trans h1 h2
            have dc := (HX.out.1.cellAt (k * 2 + 1) (by omega)).trans hcy
            have X1 := HX
            unfold maxLen at hleny
            clear ho0 HX
            go_wp2_with fail
            generalize wr = woy at *
            go_loopw [14, 71] (fun _ iv w5 => ∃ j : Nat, j ≤ zt0.length ∧ iv = .int .i64 j ∧ Hid (Copies N N' w4 (.slice (some ⟨gb, 0, none⟩) es.length oc) es.length cells w5)) (fun _ iv _ => zt0.length - (intOf iv).toNat)
            case atStart => exact ⟨0, Nat.zero_le _, rfl, X1⟩
            case round =>
              clear X1 dc
              obtain ⟨j, hj, rfl, HY⟩ := hrel
              have dc := (HY.out.1.cellAt (k * 2 + 1) (by omega)).trans hcy
              by_cases hlty : j < zt0.length
              · obtain ⟨zt1, ho1⟩ := HY.out.2.1 _ _ hcy
                obtain ⟨a', c', e⟩ := own_value ho1
                have hz1 : zt1.length = zt0.length := by simp only [Value.slice.injEq] at e; exact e.2.1.symm
                clear e
                rw [hz1] at ho1
                obtain ⟨g, cg, e, hg1, hg2⟩ := own_some ho1 (by omega)
                simp only [Value.slice.injEq] at e
                obtain ⟨rfl, _, rfl⟩ := e
                have cz := ho1.cellAt j (by omega)
                have cf := ho1.frozenAt j
                have cz' : (intsV zt1)[j]? = some (.int .i64 (zt1[j]?.getD 0)) := by
                  unfold intsV
                  rw [List.getElem?_map, List.getElem?_eq_getElem (by omega)]
                  rfl
                rw [cz'] at cz
                have i0 : (0 : Int) ≤ (j : Int) := by omega
                have i1 : (j : Int) < (zt0.length : Int) := by omega
                have X9 := Lib.hid (HY.out.set (k := j) (z := wrap64 (zt1[j]?.getD 0 + 1)) HIB.out hcy rfl)
                clear ho1 cz' HY
                generalize zt1[j]?.getD 0 = z at *
                go_wp2_with fail
                generalize wr.setCell ⟨g, j, none⟩ (.int .i64 (wrap64 (z + 1))) = w6 at *
                try go_wp2_with fail
                go_roundw
                case rel => exact ⟨j + 1, by omega, by go_num, X9⟩
                case measure => simp [intOf]; omega
              · have hje : j = zt0.length := by omega
                subst hje
                have HX := HY
                clear HY
                clear dc
                go_wp2_with fail
                go_roundw
                case rel => exact ⟨k + 1, by omega, by go_num, HX⟩
                case measure => simp [intOf]; omega
      · have hke : k = es.length := by omega
        subst hke
        have HXR := Lib.hid ((HCC.out.2.mut HX.out.2.2).pairsA.exs (HX.out.2.2.row HCC.out.1) (Nat.le_refl _))
        have D5 := Lib.hid (D4.out.trans (HX.out.2.2.1.mono (by omega)))
        clear HCC HX D4
        obtain ⟨⟨c0, c1⟩, c2, c3⟩ := HC.out wr D5.out
        go_wp2_with fail
        refine (HA.out _ D5.out).mono ?_
        rintro e w6 ⟨rfl, b6⟩
        have D6 := Lib.hid (D5.out.trans (b6.mono (HMS.out _ D5.out)))
        have HX6 := Lib.hid (HXR.out.later b6)
        clear D5 b6 HXR HA c0 c1 c2 c3
        obtain ⟨⟨c0, c1⟩, c2, c3⟩ := HC.out w6 D6.out
        go_wp2_with fail
        refine (HSD.out _ D6.out).mono ?_
        rintro e w7 ⟨rfl, b7⟩
        have D7 := Lib.hid (D6.out.trans (b7.mono (HMS.out _ D6.out)))
        have HX7 := Lib.hid (HX6.out.later b7)
        clear D6 b7 HX6 HSD c0 c1 c2 c3
        obtain ⟨⟨c0, c1⟩, c2, c3⟩ := HC.out w7 D7.out
        go_wp2_with fail
        refine (HSA.out _ D7.out).mono ?_
        rintro e w8' ⟨rfl, b8⟩
        have D8 := Lib.hid (D7.out.trans (b8.mono (HMS.out _ D7.out)))
        have HX8 := Lib.hid (HX7.out.later b8)
        clear D7 b8 HX7 HSA c0 c1 c2 c3
        obtain ⟨⟨c0, c1⟩, c2, c3⟩ := HC.out w8' D8.out
        have b9 := (Below.refl w8'.heap.size w8').alloc (Nat.le_refl _) (.cells #[.slice a1 x1.length k1, .slice a2 y1.length k2, .slice a3 x2.length k3, .slice a4 y2.length k4] 24)
        have HE9 := HEX.out w8' D8.out
        have HSS := Lib.hid (sameAllX_any _ _ es (by omega) HLL.out _ (HX8.out.later b9) HE9)
        have D9 := Lib.hid (D8.out.trans (b9.mono (HMS.out _ D8.out)))
        clear b9 HE9 HX8 D8
        go_wp2_with fail
        refine HSS.out.mono ?_
        rintro e w10 ⟨rfl, b10⟩
        have B10 := HBA.out.trans ((D9.out.trans (b10.mono (HMS.out _ D9.out))).mono (by omega))
        have hts := HTS.out
        clear HSS b10 D9 c0 c1 c2 c3
        cases okA
        · go_wp2_with fail
          go_ret
          exact ⟨by first | rfl | (simp; done), by first | exact B10 | (rw [hN]; exact B10)⟩
        · cases okB
          · go_wp2_with fail
            go_ret
            exact ⟨by first | rfl | (simp; done), by first | exact B10 | (rw [hN]; exact B10)⟩
          · simp only [Bool.not_true, Bool.false_or] at hts
            go_wp2_with fail
            go_ret
            exact ⟨by first | rfl | (simp; done) | (simp [hts]; done) | simp_all, by first | exact B10 | (rw [hN]; exact B10)⟩
end Go.Proofs.YtcnabebcckbfkaaDoor
