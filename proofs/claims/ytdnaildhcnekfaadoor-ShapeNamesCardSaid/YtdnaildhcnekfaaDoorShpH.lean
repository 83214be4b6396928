/- Layer 8: ShapeMakes. -/
import Derived.Test.YtdnaildhcnekfaaDoorShpG
namespace Go.Proofs.YtdnaildhcnekfaaDoor
open Go.RowKit
set_option linter.unusedVariables false
theorem ints_lt {q : IntKind} {w : World} {base N : Nat} {e : TypeId} {v : Value} {zs : List Int} (h : w.ownsRow base e 1 v zs.length (zs.map (Value.int q))) (hN : ∀ k, v.ownBlock = some k → k < N) : IntsAt q N w v zs := by
  obtain ⟨hl, ⟨e0, hn⟩ | ⟨b, off, cap, e0, hn, hb, hc⟩⟩ := SliceAt.of_owns h
  · exact ⟨hl, .inl ⟨e0, hn⟩⟩
  · exact ⟨hl, .inr ⟨b, off, cap, e0, hn, hN b (by rw [e0]; rfl), hc⟩⟩
theorem set_map_eq (zs : List Int) (k : Nat) (x : Int) (q : IntKind) : (zs.map (Value.int q)).set k (.int q x) = (zs.set k x).map (Value.int q) := (List.map_set).symm
theorem sizes_any (N b : Nat) (ss : List Int) (hr : RightH ss) (w : World) (h : ShapeAt N b w ss) :
    Calls Tryd.prog 12 #[.pointer (some ⟨b, 0, none⟩)] w (ClonedTo 3 1 ss.length (ss.map (Value.int .i64)) w) := by
  obtain ⟨h0, hb, h2, v, u, c0, c1, o0, o1⟩ := h
  have h16 := hr.l16
  have HC := Lib.hid (cloneS_any v ss (by omega) (by omega) w (ints_own o0))
  obtain ⟨a, c, rfl⟩ := own_value o0
  clear o0 o1 c1
  go_enter Tryd.func12, Tryd.ntmps12
  go_wp2_with fail
  refine HC.out.mono ?_
  rintro e w1 ⟨x, rfl, ox, bx⟩
  have OX := Lib.hid ox
  have BX := Lib.hid bx
  clear ox bx HC
  go_wp2_with fail
  go_ret
  exact ⟨_, rfl, OX.out, BX.out⟩
theorem eq_ints (v u : Value) (zs ys : List Int) (hz : 0 < zs.length) (hy : 0 < ys.length) (hm : zs.length ≤ 1048576) (hm2 : ys.length ≤ 1048576) (w : World) (hv : IntsAt .i64 w.heap.size w v zs) (hu : IntsAt .i64 w.heap.size w u ys) :
    Calls Tryd.prog 11 #[v, u] w fun e w' => e = .returned (.bool (zs == ys)) ∧ Below w.heap.size w w' := by
  rcases hv.form with ⟨_, rfl⟩ | ⟨b1, o1, c1, rfl, _, _, h1⟩
  · simp at hz
  rcases hu.form with ⟨_, rfl⟩ | ⟨b2, o2, c2, rfl, _, _, h2⟩
  · simp at hy
  refine (Tryd.slices_Equal_int b1 o1 zs.length c1 b2 o2 ys.length c2 zs ys w (Nat.le_refl _) (Nat.le_refl _) (by omega) (by omega) (fun j hj => by rw [List.getD_eq_getElem?_getD]; exact h1 j hj) (fun j hj => by rw [List.getD_eq_getElem?_getD]; exact h2 j hj)).mono ?_
  rintro e w' ⟨rfl, q, rfl⟩
  rw [List.take_length, List.take_length]
  exact ⟨rfl, below_drewN (Below.refl _ _) q⟩
set_option maxRecDepth 4000 in
set_option maxHeartbeats 2000000 in
theorem walk_makes (v : Value) (ss : List Int) (hm : ss.length ≤ maxLen) (w : World) (hv : IntsW .i64 w.heap.size w v ss) :
    Calls Tryd.prog 3 #[v] w fun e w' => e = .returned (.bool true) ∧ Below w.heap.size w w' := by
  have hsrc := hv.src
  obtain ⟨a, c, rfl⟩ := hv.value
  have HV := Lib.hid hv
  unfold maxLen at hm
  clear hv
  by_cases h40 : ss.length ≤ 40
  · have g1 : decide ((40 : Int) < (ss.length : Int)) = false := by simp; omega
    have HO := Lib.hid (World.ownsRow_made (base := w.heap.size) (e := 3) (size := 1) w #[] 0 (Nat.le_refl _) (Nat.zero_le _) (by simp))
    have hb0 := (Below.refl w.heap.size w).alloc (Nat.le_refl _) (.cells #[] 3)
    have HSRC : Hid ((Value.slice a ss.length c = .slice none 0 0 ∧ ss.map (Value.int .i64) = []) ∨ ∃ ad c', Value.slice a ss.length c = .slice (some ad) ss.length c' ∧ ∀ j y, (ss.map (Value.int .i64))[j]? = some y → (w.alloc (.cells #[] 3)).cell? (ad.add j) = some y) := Lib.hid (by
      rcases hsrc with ⟨e1, e2⟩ | ⟨ad, c', e1, hc⟩
      · exact .inl ⟨e1, by rw [e2]; rfl⟩
      · exact .inr ⟨ad, c', e1, fun j y hy => cell_step hb0 (hc j y hy)⟩)
    clear hsrc
    go_enter Tryd.func3, Tryd.ntmps3
    go_wp2_with (at_builtin; refine append_list (base := w.heap.size) (n := 0) (m := ss.length) (u := .slice a ss.length c) (xs := []) (ys := ss.map (Value.int .i64)) elemI rfl _ _ rfl rfl rfl HO.out (by simp) HSRC.out ints_one (by unfold maxLen; omega) (by omega) hb0.size ?_; intro v1 w1 ho1 hg1; have HO1 := Lib.hid ho1; have HG1 := Lib.hid hg1; clear ho1 hg1)
    have B1 := below_appended hb0 HO.out HG1.out (Nat.le_refl _) hb0.size
    have ho := HO1.out
    rw [Nat.zero_add, List.nil_append] at ho
    obtain ⟨oa, oc, rfl⟩ := own_value ho
    have hlt : ∀ k, (Value.slice oa ss.length oc).ownBlock = some k → w.heap.size ≤ k ∧ k < w1.heap.size := fun k e => ho.lt k e
    have HN := Lib.hid (shapeNew_any (.slice oa ss.length oc) ss (by unfold maxLen; omega) w1 (.inr (ints_own ho)))
    have HV1 := Lib.hid (HV.out.below B1)
    have HOO := Lib.hid ho
    have HB1 := Lib.hid B1
    clear HO HSRC HO1 HG1 B1 hb0 ho
    refine HN.out.mono ?_
    clear HN
    rintro e w2 (⟨h0, b, rfl, hS, b2⟩ | ⟨hne, rfl, b2⟩)
    · have hR := codeH_zero.1 h0
      have O2 := Lib.hid (own_below HOO.out b2)
      have B2 := Lib.hid (HB1.out.trans (b2.mono HB1.out.size))
      have HV2 := Lib.hid (HV1.out.below (b2.mono HB1.out.size))
      have HC := Lib.hid (refCheckS_any (.slice a ss.length c) ss (by unfold maxLen; omega) w2 (HV2.out.grow B2.out.size))
      rw [h0] at HC
      have HS := Lib.hid hS
      clear hS
      clear HOO HB1 HV1 b2
      go_wp2_with fail
      refine HC.out.mono ?_
      rintro e w3 ⟨rfl, b3⟩
      have O3 := Lib.hid (own_below O2.out b3)
      have B3 := Lib.hid (B2.out.trans (b3.mono B2.out.size))
      have HV3 := Lib.hid (HV2.out.below (b3.mono B2.out.size))
      have HS3 := Lib.hid (HS.out.later b3)
      clear HS
      clear O2 B2 HV2 HC b3
      go_wp2_with fail
      go_loopw [7, 24] (fun _ i wr => ∃ (j : Nat) (ys : List Int), j ≤ ss.length ∧ i = .int .i64 j ∧ ys.length = ss.length ∧ wr.ownsRow w.heap.size 3 1 (.slice oa ss.length oc) ss.length (ys.map (Value.int .i64)) ∧ w3.grownBy wr (Value.slice oa ss.length oc).ownBlock) (fun _ i _ => ss.length - (intOf i).toNat)
      case atStart => exact ⟨0, ss, Nat.zero_le _, rfl, rfl, O3.out, World.grownBy.refl _ _⟩
      case round =>
        clear O3
        obtain ⟨j, ys, hj, rfl, hys, hO, hG⟩ := hrel
        by_cases hlt2 : j < ss.length
        · have hdec : decide ((j : Int) < (ss.length : Int)) = true := by simp; omega
          have wj : IntKind.i64.wrap ((j : Int) + 1) = j + 1 := IntWalk.i64_in _ (by omega)
          obtain ⟨go, oc', e0, hgo1, hgo2⟩ := own_some hO (by omega)
          cases e0
          have hx : (ys.map (Value.int .i64))[j]? = some (.int .i64 (ys[j]'(by omega))) := by rw [List.getElem?_map, List.getElem?_eq_getElem (by omega)]; rfl
          have hc := (hO.cellAt j (by omega)).trans hx
          have hf := hO.frozenAt j
          have i0 : (0 : Int) ≤ (j : Int) := by omega
          have i1 : (j : Int) < (ss.length : Int) := by omega
          generalize ys[j]'(by omega) = y at *
          have hst := hO.stored j (.int .i64 (wrap64 (y + 1)))
          rw [set_map_eq] at hst
          have HST := Lib.hid hst
          have HG := Lib.hid hG
          clear hst hG hO hx
          go_wp2_with fail
          go_roundw
          case rel => exact ⟨j + 1, _, by omega, by go_num, by rw [List.length_set]; exact hys, HST.out.1, grown_trans HG.out HST.out.2⟩
          case measure => simp [intOf]; omega
        · have hje : j = ss.length := by omega
          subst hje
          have hdec : decide ((ss.length : Int) < (ss.length : Int)) = false := by simp
          have B4 := Lib.hid (B3.out.grown hG B3.out.size (fun k e => (hlt k e).1))
          have B34 := (Below.refl w.heap.size w3).grown hG B3.out.size (fun k e => (hlt k e).1)
          have HV4 := Lib.hid (HV3.out.below B34)
          have HS4 := Lib.hid (HS3.out.kept hG (fun k e => (hlt k e).2))
          clear HS3
          clear hO hG B3 HV3 B34
          have h16 := hR.l16
          have h2 := hR.l2
          go_wp2_with fail
          refine (alive08_any wr).mono ?_
          rintro e w5 ⟨rfl, b5⟩
          have B5 := Lib.hid (B4.out.trans (b5.mono B4.out.size))
          have HS5 := Lib.hid (HS4.out.later b5)
          have HV5 := Lib.hid (HV4.out.below (b5.mono B4.out.size))
          have HZ := Lib.hid (sizes_any _ b ss hR w5 HS5.out)
          clear B4 HS4 HV4 b5
          go_wp2_with fail
          refine HZ.out.mono ?_
          rintro e w6 ⟨x, rfl, ox, b6⟩
          have B6 := Lib.hid (B5.out.trans (b6.mono B5.out.size))
          have HS6 := Lib.hid (HS5.out.later b6)
          have HV6 := Lib.hid (HV5.out.below (b6.mono B5.out.size))
          have HVI := IntsW.pos (HV6.out.grow B6.out.size) (by omega)
          have HEQ := Lib.hid (eq_ints x (.slice a ss.length c) ss ss (by omega) (by omega) (by omega) (by omega) w6 (ints_own ox) HVI)
          rw [beq_self_eq_true] at HEQ
          obtain ⟨xa, xc, rfl⟩ := own_value ox
          clear B5 HS5 HV5 b6 HZ HVI ox
          go_wp2_with fail
          refine HEQ.out.mono ?_
          rintro e w7 ⟨rfl, b7⟩
          have B7 := Lib.hid (B6.out.trans (b7.mono B6.out.size))
          have HS7 := Lib.hid (HS6.out.later b7)
          have HV7 := Lib.hid (HV6.out.below (b7.mono B6.out.size))
          have HL := Lib.hid (links_any _ b ss (by omega) w7 HS7.out)
          have wl : IntKind.i64.wrap ((ss.length : Int) - 1) = ((ss.length - 1 : Nat) : Int) := (IntWalk.i64_in _ (by omega)).trans (by omega)
          have wl2 : (ss.length : Int) - 1 = ((ss.length - 1 : Nat) : Int) := by omega
          clear B6 HS6 HV6 b7 HEQ
          go_wp2_with fail
          refine HL.out.mono ?_
          rintro e w8 ⟨rfl, rfl⟩
          have HCS := Lib.hid (count_shape _ b ss (by omega) w7 HS7.out)
          clear HL
          go_wp2_with fail
          refine HCS.out.mono ?_
          rintro e w9 ⟨rfl, b9⟩
          have B9 := Lib.hid (B7.out.trans (b9.mono B7.out.size))
          have HV9 := HV7.out.below (b9.mono B7.out.size)
          have HRC := Lib.hid (refCount_any (.slice a ss.length c) ss h2 h16 hR.good w9 (IntsW.pos (HV9.grow B9.out.size) (by omega)))
          clear B7 HS7 HV7 b9 HCS HV9
          go_wp2_with fail
          refine HRC.out.mono ?_
          rintro e w10 ⟨rfl, b10⟩
          have B10 := Lib.hid (B9.out.trans (b10.mono B9.out.size))
          clear B9 b10 HRC
          go_wp2_with fail
          go_ret
          exact ⟨by first | rfl | simp, B10.out⟩
    · skip
      have O2 := Lib.hid (own_below HOO.out b2)
      have B2 := Lib.hid (HB1.out.trans (b2.mono HB1.out.size))
      have HV2 := Lib.hid (HV1.out.below (b2.mono HB1.out.size))
      have HC := Lib.hid (refCheckS_any (.slice a ss.length c) ss (by unfold maxLen; omega) w2 (HV2.out.grow B2.out.size))
      skip
      clear HOO HB1 HV1 b2
      go_wp2_with fail
      refine HC.out.mono ?_
      rintro e w3 ⟨rfl, b3⟩
      have O3 := Lib.hid (own_below O2.out b3)
      have B3 := Lib.hid (B2.out.trans (b3.mono B2.out.size))
      have HV3 := Lib.hid (HV2.out.below (b3.mono B2.out.size))
      clear O2 B2 HV2 HC b3
      go_wp2_with fail
      go_loopw [7, 24] (fun _ i wr => ∃ (j : Nat) (ys : List Int), j ≤ ss.length ∧ i = .int .i64 j ∧ ys.length = ss.length ∧ wr.ownsRow w.heap.size 3 1 (.slice oa ss.length oc) ss.length (ys.map (Value.int .i64)) ∧ w3.grownBy wr (Value.slice oa ss.length oc).ownBlock) (fun _ i _ => ss.length - (intOf i).toNat)
      case atStart => exact ⟨0, ss, Nat.zero_le _, rfl, rfl, O3.out, World.grownBy.refl _ _⟩
      case round =>
        clear O3
        obtain ⟨j, ys, hj, rfl, hys, hO, hG⟩ := hrel
        by_cases hlt2 : j < ss.length
        · have hdec : decide ((j : Int) < (ss.length : Int)) = true := by simp; omega
          have wj : IntKind.i64.wrap ((j : Int) + 1) = j + 1 := IntWalk.i64_in _ (by omega)
          obtain ⟨go, oc', e0, hgo1, hgo2⟩ := own_some hO (by omega)
          cases e0
          have hx : (ys.map (Value.int .i64))[j]? = some (.int .i64 (ys[j]'(by omega))) := by rw [List.getElem?_map, List.getElem?_eq_getElem (by omega)]; rfl
          have hc := (hO.cellAt j (by omega)).trans hx
          have hf := hO.frozenAt j
          have i0 : (0 : Int) ≤ (j : Int) := by omega
          have i1 : (j : Int) < (ss.length : Int) := by omega
          generalize ys[j]'(by omega) = y at *
          have hst := hO.stored j (.int .i64 (wrap64 (y + 1)))
          rw [set_map_eq] at hst
          have HST := Lib.hid hst
          have HG := Lib.hid hG
          clear hst hG hO hx
          go_wp2_with fail
          go_roundw
          case rel => exact ⟨j + 1, _, by omega, by go_num, by rw [List.length_set]; exact hys, HST.out.1, grown_trans HG.out HST.out.2⟩
          case measure => simp [intOf]; omega
        · have hje : j = ss.length := by omega
          subst hje
          have hdec : decide ((ss.length : Int) < (ss.length : Int)) = false := by simp
          have B4 := Lib.hid (B3.out.grown hG B3.out.size (fun k e => (hlt k e).1))
          have B34 := (Below.refl w.heap.size w3).grown hG B3.out.size (fun k e => (hlt k e).1)
          have HV4 := Lib.hid (HV3.out.below B34)
          clear hO hG B3 HV3 B34
          have hcd : ∃ cd : Int, cd = codeH ss := ⟨_, rfl⟩
          obtain ⟨cd, hcd⟩ := hcd
          rw [← hcd] at hne ⊢
          clear hcd
          have hb2 : (cd != 0) = true := by simpa using hne
          have hb3 : ¬ cd = 0 := hne
          go_wp2_with fail
          refine (alive08_any wr).mono ?_
          rintro e w5 ⟨rfl, b5⟩
          have B5 := Lib.hid (B4.out.trans (b5.mono B4.out.size))
          clear B4 HV4 b5
          go_wp2_with fail
          go_ret
          exact ⟨by first | rfl | simp, B5.out⟩
  · have g1 : decide ((40 : Int) < (ss.length : Int)) = true := by simp; omega
    clear hsrc
    go_enter Tryd.func3, Tryd.ntmps3
    go_wp2_with fail
    refine (alive08_any w).mono ?_
    rintro e w1 ⟨rfl, b1⟩
    have B1 := Lib.hid b1
    clear b1
    go_wp2_with fail
    go_ret
    exact ⟨rfl, B1.out⟩
end Go.Proofs.YtdnaildhcnekfaaDoor
