/- Layer 10: Same in general, Text in general. -/
import Derived.Test.YtcnabebcckbfkaaDoorDatX
namespace Go.Proofs.YtcnabebcckbfkaaDoor
open Go.RowKit
set_option linter.unusedVariables false
set_option maxHeartbeats 2000000 in
theorem equalW_any (v u : Value) (zs ys : List Int) (hm : zs.length ≤ 140737488351232) (hm2 : ys.length ≤ 140737488351232) (w : World) (hv : IntsW .i64 w.heap.size w v zs) (hu : IntsW .i64 w.heap.size w u ys) :
    Calls Tryd.prog 45 #[v, u] w fun e w' => e = .returned (.bool (sameL zs ys)) ∧ Below w.heap.size w w' := by
  obtain ⟨a, c, rfl⟩ := hv.value
  obtain ⟨a2, c2, rfl⟩ := hu.value
  have HV := Lib.hid hv
  have HU := Lib.hid hu
  have B0 := Lib.hid (Below.refl w.heap.size w)
  have HS := Lib.hid (sameL_iff zs ys)
  clear hv hu
  by_cases hl : zs.length = ys.length
  · have g1 : ((zs.length : Int) != (ys.length : Int)) = false := by simp; omega
    have HL := Lib.hid hl
    have hl2 : (zs.length : Int) = (ys.length : Int) := by omega
    generalize hN : w.heap.size = N at *
    clear hl hl2
    go_enter Tryd.func45, Tryd.ntmps45
    go_wp2_with fail
    go_loopw [5, 13] (fun _ iv wr => ∃ k : Nat, k ≤ zs.length ∧ iv = .int .i64 k ∧ Hid (∀ j, j < k → zs[j]? = ys[j]?) ∧ Hid (Below N w wr)) (fun _ iv _ => zs.length - (intOf iv).toNat)
    case atStart => exact ⟨0, Nat.zero_le _, rfl, Lib.hid (fun j hj => absurd hj (Nat.not_lt_zero j)), B0⟩
    case round =>
      clear B0
      obtain ⟨k, hk, rfl, HE, HB⟩ := hrel
      by_cases hlt : k < zs.length
      · obtain ⟨b, off, rfl, hb, hc⟩ := HV.out.at' k hlt
        obtain ⟨b2, off2, rfl, hb2, hc2⟩ := HU.out.at' k (by have := HL.out; omega)
        have c1 := (HB.out.cell (p := ⟨b, off + k, none⟩) hb).trans hc
        have c2' := (HB.out.cell (p := ⟨b2, off2 + k, none⟩) hb2).trans hc2
        have hz : zs[k]? = some (zs[k]?.getD 0) := by rw [List.getElem?_eq_getElem hlt]; rfl
        have hy : ys[k]? = some (ys[k]?.getD 0) := by rw [List.getElem?_eq_getElem (by have := HL.out; omega)]; rfl
        have HZ := Lib.hid (And.intro hz hy)
        have i0 : (0 : Int) ≤ (k : Int) := by omega
        have i1 : (k : Int) < (zs.length : Int) := by omega
        have i2 : (k : Int) < (ys.length : Int) := by have := HL.out; omega
        clear hc hc2 hz hy
        generalize hzk : zs[k]?.getD 0 = x at *
        generalize hyk : ys[k]?.getD 0 = y at *
        by_cases hxy : x = y
        · have g3 : (x != y) = false := by simpa using hxy
          have HE2 : Hid (∀ j, j < k + 1 → zs[j]? = ys[j]?) := Lib.hid (fun j hj => by
            rcases Nat.lt_succ_iff_lt_or_eq.1 hj with h | rfl
            · exact HE.out j h
            · rw [HZ.out.1, HZ.out.2, hxy])
          have B2 := Lib.hid HB.out.drew
          clear hzk hyk hxy HZ
          go_wp2_with fail
          go_region
          go_wp2_with fail
          go_roundw
          case rel => exact ⟨k + 1, by omega, by go_num, HE2, B2⟩
          case measure => simp [intOf]; omega
        · have g3 : (x != y) = true := by simpa using hxy
          have HNE := Lib.hid (show sameL zs ys = false by
            rw [HS.out]
            refine decide_eq_false fun e => hxy ?_
            rw [← hzk, ← hyk, e])
          have B2 := Lib.hid HB.out.drew
          clear hzk hyk HZ
          go_wp2_with fail
          go_region
          go_wp2_with fail
          go_ret
          exact ⟨by rw [HNE.out]; rfl, by first | exact B2.out | (rw [hN]; exact B2.out)⟩
      · have hke : k = zs.length := by omega
        subst hke
        have HEQ := Lib.hid (show sameL zs ys = true by
          rw [HS.out]
          refine decide_eq_true (List.ext_getElem? fun j => ?_)
          by_cases h : j < zs.length
          · exact HE.out j h
          · have := HL.out
            rw [List.getElem?_eq_none (by omega), List.getElem?_eq_none (by omega)])
        have i0 : ¬ (zs.length : Int) < (zs.length : Int) := by omega
        go_wp2_with fail
        go_ret
        exact ⟨by rw [HEQ.out]; rfl, by first | exact HB.out | (rw [hN]; exact HB.out)⟩
  · have g1 : ((zs.length : Int) != (ys.length : Int)) = true := by simp; omega
    have g2 : ¬ (zs.length : Int) = (ys.length : Int) := by omega
    have HNE := Lib.hid (show sameL zs ys = false by rw [HS.out]; exact decide_eq_false fun e => hl (by rw [e]))
    go_enter Tryd.func45, Tryd.ntmps45
    go_wp2_with fail
    go_ret
    exact ⟨by rw [HNE.out]; rfl, B0.out⟩
set_option maxHeartbeats 2000000 in
theorem sameG_any (v1 v2 u1 u2 : Value) (zx zy tx ty : List Int) (hx : zx.length ≤ 1000000) (hy : zy.length ≤ 1000000) (hx2 : tx.length ≤ 1000000) (hy2 : ty.length ≤ 1000000) (w : World) (i1 : IntsW .i64 w.heap.size w v1 zx) (i2 : IntsW .i64 w.heap.size w v2 zy) (i3 : IntsW .i64 w.heap.size w u1 tx) (i4 : IntsW .i64 w.heap.size w u2 ty) :
    Calls Tryd.prog 14 #[.agg #[v1, v2], .agg #[u1, u2]] w fun e w' => e = .returned (.bool (sameL zx tx && sameL zy ty)) ∧ Below w.heap.size w w' := by
  obtain ⟨a1, k1, rfl⟩ := i1.value
  obtain ⟨a2, k2, rfl⟩ := i2.value
  obtain ⟨a3, k3, rfl⟩ := i3.value
  obtain ⟨a4, k4, rfl⟩ := i4.value
  have HI := Lib.hid (And.intro i1 (And.intro i2 (And.intro i3 i4)))
  have T0 := Two.new w 24 (.slice a1 zx.length k1) (.slice a2 zy.length k2)
  have b1 := (Below.refl w.heap.size w).alloc (Nat.le_refl _) (.cells #[.slice a1 zx.length k1, .slice a2 zy.length k2] 24)
  have b2 := (Below.refl (w.alloc (.cells #[.slice a1 zx.length k1, .slice a2 zy.length k2] 24)).heap.size _).alloc (Nat.le_refl _) (.cells #[.slice a3 tx.length k3, .slice a4 ty.length k4] 24)
  have T1 := Two.new (w.alloc (.cells #[.slice a1 zx.length k1, .slice a2 zy.length k2] 24)) 24 (.slice a3 tx.length k3) (.slice a4 ty.length k4)
  rw [World.size_alloc] at T1
  have T0' := Lib.hid (T0.later b2)
  have T1' := Lib.hid T1
  have B2 := Lib.hid (below_step b1 b2)
  clear i1 i2 i3 i4 T0 T1 b1 b2
  go_enter Tryd.func14, Tryd.ntmps14
  go_upto_region 1 with fail
  generalize (w.alloc (.cells #[.slice a1 zx.length k1, .slice a2 zy.length k2] 24)).alloc (.cells #[.slice a3 tx.length k3, .slice a4 ty.length k4] 24) = w2 at *
  have hNs := B2.out.size
  generalize hN : w.heap.size = N at *
  obtain ⟨c0, c1⟩ := T0'.out.cells
  obtain ⟨d0, d1⟩ := T1'.out.cells
  have H1 := Lib.hid (refSame_w _ _ zx tx (by omega) (by omega) w2 ((HI.out.1.below B2.out).grow hNs) ((HI.out.2.2.1.below B2.out).grow hNs))
  generalize hs1 : sameL zx tx = s1 at *
  generalize hs2 : sameL zy ty = s2 at *
  cases s1
  · go_wp2_with fail
    refine H1.out.mono ?_
    rintro e w3 ⟨rfl, b3⟩
    have B3 := B2.out.trans (b3.mono hNs)
    clear H1 b3 B2
    go_wp2_with fail
    go_ret
    exact ⟨by rw [hs1]; first | rfl | (simp; done), by first | exact B3 | (rw [hN]; exact B3)⟩
  · go_wp2_with fail
    refine H1.out.mono ?_
    rintro e w3 ⟨rfl, b3⟩
    have c1' := cell_step b3 c1
    have d1' := cell_step b3 d1
    have B3 := Lib.hid (B2.out.trans (b3.mono hNs))
    have hNs3 : N ≤ w3.heap.size := Nat.le_trans hNs b3.size
    have H2 := Lib.hid (refSame_w _ _ zy ty (by omega) (by omega) w3 ((HI.out.2.1.below B3.out).grow hNs3) ((HI.out.2.2.2.below B3.out).grow hNs3))
    rw [hs2] at H2
    clear H1 b3 B2 c0 c1 d0 d1
    go_wp2_with fail
    refine H2.out.mono ?_
    rintro e w4 ⟨rfl, b4⟩
    have B4 := B3.out.trans (b4.mono hNs3)
    clear H2 b4
    go_wp2_with fail
    go_ret
    exact ⟨by rw [hs1, hs2]; first | rfl | (simp; done), by first | exact B4 | (rw [hN]; exact B4)⟩
set_option maxHeartbeats 2000000 in
theorem sameD_any (v1 v2 u1 u2 : Value) (zx zy tx ty : List Int) (hx : zx.length ≤ 1000000) (hy : zy.length ≤ 1000000) (hx2 : tx.length ≤ 1000000) (hy2 : ty.length ≤ 1000000) (w : World) (i1 : IntsW .i64 w.heap.size w v1 zx) (i2 : IntsW .i64 w.heap.size w v2 zy) (i3 : IntsW .i64 w.heap.size w u1 tx) (i4 : IntsW .i64 w.heap.size w u2 ty) :
    Calls Tryd.prog 25 #[.agg #[v1, v2], .agg #[u1, u2]] w fun e w' => e = .returned (.bool (sameL zx tx && sameL zy ty)) ∧ Below w.heap.size w w' := by
  obtain ⟨a1, k1, rfl⟩ := i1.value
  obtain ⟨a2, k2, rfl⟩ := i2.value
  obtain ⟨a3, k3, rfl⟩ := i3.value
  obtain ⟨a4, k4, rfl⟩ := i4.value
  have HI := Lib.hid (And.intro i1 (And.intro i2 (And.intro i3 i4)))
  have T0 := Two.new w 24 (.slice a1 zx.length k1) (.slice a2 zy.length k2)
  have b1 := (Below.refl w.heap.size w).alloc (Nat.le_refl _) (.cells #[.slice a1 zx.length k1, .slice a2 zy.length k2] 24)
  have b2 := (Below.refl (w.alloc (.cells #[.slice a1 zx.length k1, .slice a2 zy.length k2] 24)).heap.size _).alloc (Nat.le_refl _) (.cells #[.slice a3 tx.length k3, .slice a4 ty.length k4] 24)
  have T1 := Two.new (w.alloc (.cells #[.slice a1 zx.length k1, .slice a2 zy.length k2] 24)) 24 (.slice a3 tx.length k3) (.slice a4 ty.length k4)
  rw [World.size_alloc] at T1
  have T0' := Lib.hid (T0.later b2)
  have T1' := Lib.hid T1
  have B2 := Lib.hid (below_step b1 b2)
  clear i1 i2 i3 i4 T0 T1 b1 b2
  go_enter Tryd.func25, Tryd.ntmps25
  go_upto_region 1 with fail
  generalize (w.alloc (.cells #[.slice a1 zx.length k1, .slice a2 zy.length k2] 24)).alloc (.cells #[.slice a3 tx.length k3, .slice a4 ty.length k4] 24) = w2 at *
  have hNs := B2.out.size
  generalize hN : w.heap.size = N at *
  obtain ⟨c0, c1⟩ := T0'.out.cells
  obtain ⟨d0, d1⟩ := T1'.out.cells
  have H1 := Lib.hid (equalW_any _ _ zx tx (by omega) (by omega) w2 ((HI.out.1.below B2.out).grow hNs) ((HI.out.2.2.1.below B2.out).grow hNs))
  generalize hs1 : sameL zx tx = s1 at *
  generalize hs2 : sameL zy ty = s2 at *
  cases s1
  · go_wp2_with fail
    refine H1.out.mono ?_
    rintro e w3 ⟨rfl, b3⟩
    have B3 := B2.out.trans (b3.mono hNs)
    clear H1 b3 B2
    go_wp2_with fail
    go_ret
    exact ⟨by rw [hs1]; first | rfl | (simp; done), by first | exact B3 | (rw [hN]; exact B3)⟩
  · go_wp2_with fail
    refine H1.out.mono ?_
    rintro e w3 ⟨rfl, b3⟩
    have c1' := cell_step b3 c1
    have d1' := cell_step b3 d1
    have B3 := Lib.hid (B2.out.trans (b3.mono hNs))
    have hNs3 : N ≤ w3.heap.size := Nat.le_trans hNs b3.size
    have H2 := Lib.hid (equalW_any _ _ zy ty (by omega) (by omega) w3 ((HI.out.2.1.below B3.out).grow hNs3) ((HI.out.2.2.2.below B3.out).grow hNs3))
    rw [hs2] at H2
    clear H1 b3 B2 c0 c1 d0 d1
    go_wp2_with fail
    refine H2.out.mono ?_
    rintro e w4 ⟨rfl, b4⟩
    have B4 := B3.out.trans (b4.mono hNs3)
    clear H2 b4
    go_wp2_with fail
    go_ret
    exact ⟨by rw [hs1, hs2]; first | rfl | (simp; done), by first | exact B4 | (rw [hN]; exact B4)⟩
/-- the text of an example, in general -/
def okT (xs ys : List Int) : Bool := decide (0 < xs.length) && decide (0 < ys.length)
def textO (xs ys : List Int) : List UInt8 := if okT xs ys = true then textX xs ys 4 else []
set_option maxHeartbeats 2000000 in
theorem textO_any (vx vy : Value) (xs ys : List Int) (hlx : xs.length ≤ 1000) (hly : ys.length ≤ 1000)
    (hwx : ∀ z ∈ xs, -9223372036854775808 ≤ z ∧ z ≤ 9223372036854775807) (hwy : ∀ z ∈ ys, -9223372036854775808 ≤ z ∧ z ≤ 9223372036854775807)
    (w : World) (ht : Pow10 w) (hvx : IntsW .i64 w.heap.size w vx xs) (hvy : IntsW .i64 w.heap.size w vy ys) :
    Calls Tryd.prog 11 #[.agg #[vx, vy], .int .i64 4] w fun e w' => e = .returned (.tuple #[.string ⟨(textO xs ys).toArray⟩, .bool (okT xs ys)]) ∧ Below w.heap.size w w' := by
  by_cases hok : 0 < xs.length ∧ 0 < ys.length
  · have e1 : okT xs ys = true := by unfold okT; simp [hok.1, hok.2]
    have e2 : textO xs ys = textX xs ys 4 := by unfold textO; rw [if_pos e1]
    rw [e1, e2]
    exact textX_any vx vy xs ys 4 hok.1 hok.2 hlx hly hwx hwy (by omega) (Nat.le_trans (textX_len hwx hwy hlx hly) (by omega)) w ht hvx hvy
  have e1 : okT xs ys = false := by
    unfold okT
    rcases (show ¬ 0 < xs.length ∨ ¬ 0 < ys.length by omega) with h | h
    · rw [decide_eq_false h, Bool.false_and]
    · rw [decide_eq_false h, Bool.and_false]
  have e2 : textO xs ys = [] := by unfold textO; rw [e1]; rfl
  rw [e1, e2]
  obtain ⟨a, c, rfl⟩ := hvx.value
  obtain ⟨a2, c2, rfl⟩ := hvy.value
  have HVX := Lib.hid hvx
  have HVY := Lib.hid hvy
  have HT := Lib.hid ht
  have b0 := (Below.refl w.heap.size w).alloc (Nat.le_refl _) (.cells #[.slice a xs.length c, .slice a2 ys.length c2] 24)
  have x0 := cell_new w #[.slice a xs.length c, .slice a2 ys.length c2] 24 0
  have x1 := cell_new w #[.slice a xs.length c, .slice a2 ys.length c2] 24 1
  simp only [List.getElem?_toArray, List.getElem?_cons_zero, List.getElem?_cons_succ] at x0 x1
  have b1 := (Below.refl (w.alloc (.cells #[.slice a xs.length c, .slice a2 ys.length c2] 24)).heap.size _).alloc (Nat.le_refl _) (.cells #[.int .i64 4] 3)
  have q0 := cell_new (w.alloc (.cells #[.slice a xs.length c, .slice a2 ys.length c2] 24)) #[.int .i64 4] 3 0
  simp only [List.getElem?_toArray, List.getElem?_cons_zero] at q0
  rw [World.size_alloc] at q0
  have c0 := cell_step b1 x0
  have c1 := cell_step b1 x1
  have B1 := Lib.hid (below_step b0 b1)
  have HC := Lib.hid (And.intro c0 (And.intro c1 q0))
  clear b0 b1 x0 x1 q0 c0 c1 hvx hvy ht
  go_enter Tryd.func11, Tryd.ntmps11
  go_upto_region 2 with fail
  generalize (w.alloc (.cells #[.slice a xs.length c, .slice a2 ys.length c2] 24)).alloc (.cells #[.int .i64 4] 3) = w1 at *
  generalize hN : w.heap.size = N at *
  have hNs : N ≤ w1.heap.size := by rw [← hN]; exact (show Below w.heap.size w w1 by rw [hN]; exact B1.out).size
  obtain ⟨c0, c1, q0⟩ := HC.out
  have H2 := Lib.hid (eachW_any _ xs (N + 1) 4 (by omega) hwx (by omega) w1 (HT.out.later (by rw [hN]; exact B1.out)) q0 ((HVX.out.below B1.out).grow hNs))
  go_wp2_with fail
  refine H2.out.mono ?_
  rintro e w2 ⟨⟨u, rfl, o2⟩, b2⟩
  have O2 := Lib.hid o2
  have HC2 := Lib.hid (And.intro (cell_step b2 c0) (And.intro (cell_step b2 c1) (cell_step b2 q0)))
  have B2 := Lib.hid (B1.out.trans (b2.mono hNs))
  have hNs2 : N ≤ w2.heap.size := by have := b2.size; omega
  clear H2 o2 b2 HC c0 c1 q0 B1
  obtain ⟨ua, uc, rfl⟩ := own_value O2.out
  obtain ⟨c0, c1, q0⟩ := HC2.out
  have H3 := Lib.hid (eachW_any _ ys (N + 1) 4 (by omega) hwy (by omega) w2 (HT.out.later (by rw [hN]; exact B2.out)) q0 ((HVY.out.below B2.out).grow hNs2))
  go_wp2_with fail
  refine H3.out.mono ?_
  rintro e w3 ⟨⟨u3, rfl, o3⟩, b3⟩
  have B3 := B2.out.trans (b3.mono hNs2)
  obtain ⟨ua3, uc3, rfl⟩ := own_value o3
  clear H3 o3 b3 HC2 c0 c1 q0 B2 O2 HVX HVY HT hwx hwy
  generalize xs.length = lx at *
  generalize ys.length = ly at *
  by_cases hz : lx = 0
  · subst hz
    go_wp2_with fail
    go_ret2
    exact ⟨rfl, by first | exact B3 | (rw [hN]; exact B3)⟩
  · have hz2 : ly = 0 := by omega
    subst hz2
    have g1 : ((lx : Int) == 0) = false := by simpa using hz
    have g3 : ¬ (lx : Int) = 0 := by omega
    go_wp2_with fail
    go_ret2
    exact ⟨rfl, by first | exact B3 | (rw [hN]; exact B3)⟩
/-- the law's last line: two texts are the same exactly if the examples are -/
theorem texts_same (x1 y1 x2 y2 : List Int) : (!okT x1 y1 || (!okT x2 y2 || ((textO x1 y1 == textO x2 y2) == (sameL x1 x2 && sameL y1 y2)))) = true := by
  cases h1 : okT x1 y1
  · rfl
  · cases h2 : okT x2 y2
    · rfl
    · have e1 : textO x1 y1 = textX x1 y1 4 := by unfold textO; rw [if_pos h1]
      have e2 : textO x2 y2 = textX x2 y2 4 := by unfold textO; rw [if_pos h2]
      rw [e1, e2, sameL_iff, sameL_iff]
      by_cases h : x1 = x2 ∧ y1 = y2
      · obtain ⟨rfl, rfl⟩ := h
        simp
      · have hne : textX x1 y1 4 ≠ textX x2 y2 4 := fun e => h (textX_inj e)
        have g1 : (textX x1 y1 4 == textX x2 y2 4) = false := by simpa using hne
        rw [g1, ← Bool.decide_and, decide_eq_false h]
        rfl
end Go.Proofs.YtcnabebcckbfkaaDoor
