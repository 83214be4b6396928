/- Layer 8: ShapeNil. -/
import Derived.Test.YtdnaildhcnekfaaDoorShpL
namespace Go.Proofs.YtdnaildhcnekfaaDoor
open Go.RowKit
set_option linter.unusedVariables false
theorem equalIn_prange (a b p q : Int) (w : World) : (Op.equalIn 10000 35 (.agg #[.int .i64 a, .int .i64 b]) (.agg #[.int .i64 p, .int .i64 q])).run Tryd.prog w = .ok ([a, b] == [p, q]) w := by
  rw [run_equalIn_agg w 9999 35 _ _ (by kernel_rfl) (by kernel_rfl)]
  have hpart : ∀ (xs : Array Value) (i : Nat) (x : Value), xs[i]? = some x → (part 3 xs i).run Tryd.prog w = .ok x w := by
    intro xs i x h
    simp [part, isAgg, run_underlying Tryd.underlying3, h]
  have hE : ∀ x y : Int, (Op.equalIn 9999 3 (.int .i64 x) (.int .i64 y)).run Tryd.prog w = .ok (x == y) w := fun x y => run_equalIn_int w 9998 3 .i64 .i64 x y Tryd.underlying3
  simp only [Program.fieldsOf, Tryd.underlying35]
  have g0 := hpart #[.int .i64 a, .int .i64 b] 0 (.int .i64 a) rfl
  have g1 := hpart #[.int .i64 a, .int .i64 b] 1 (.int .i64 b) rfl
  have k0 := hpart #[.int .i64 p, .int .i64 q] 0 (.int .i64 p) rfl
  have k1 := hpart #[.int .i64 p, .int .i64 q] 1 (.int .i64 q) rfl
  clear hpart
  simp only [Op.eqFields, ne_eq, String.reduceEq, not_false_eq_true, if_true, Sem.run_bind, Sem.run_ite, g0, g1, k0, k1, hE, Result.andThen_ok, Sem.run_pure]
  by_cases h0 : a = p
  · by_cases h1 : b = q
    · simp [h0, h1]
    · simp [h0, h1]
  · simp [h0]
theorem neq_prange (a b : Int) (w : World) : (binOp .neq 35 (.agg #[.int .i64 a, .int .i64 b]) (.agg #[.int .i64 a, .int .i64 b])).run Tryd.prog w = .ok (.bool false) w := by
  rw [run_neq_struct, equalIn_prange, beq_self_eq_true]
  rfl
/-- few sizes, and those of a small network, if they are right -/
def fewH (ss : List Int) : Bool := decide (ss.length ≤ 40) && (decide (codeH ss ≠ 0) || decide (stTo ss (ss.length - 1) ≤ 400))
set_option maxHeartbeats 1000000 in
theorem fewS_any (v : Value) (ss : List Int) (hm : ss.length ≤ maxLen) (w : World) (hv : IntsW .i64 w.heap.size w v ss) :
    Calls Tryd.prog 21 #[v] w fun e w' => e = .returned (.bool (fewH ss)) ∧ Below w.heap.size w w' := by
  obtain ⟨a, c, rfl⟩ := hv.value
  have HV := Lib.hid hv
  have HCK := Lib.hid (refCheckS_any (.slice a ss.length c) ss hm w hv)
  unfold maxLen at hm
  clear hv
  by_cases h40 : ss.length ≤ 40
  · have g1 : decide ((ss.length : Int) ≤ 40) = true := by simp; omega
    by_cases h0 : codeH ss = 0
    · have hR := codeH_zero.1 h0
      have h2 := hR.l2
      have h16 := hR.l16
      rw [h0] at HCK
      have hst := st_range (k := ss.length - 1) hR.good (.inl (by omega))
      go_enter Tryd.func21, Tryd.ntmps21
      go_wp2_with fail
      refine HCK.out.mono ?_
      rintro e w1 ⟨rfl, b1⟩
      have B1 := Lib.hid b1
      have HC := Lib.hid (refCount_any (.slice a ss.length c) ss h2 h16 hR.good w1 (IntsW.pos ((HV.out.below b1).grow b1.size) (by omega)))
      have hfe : Hid (fewH ss = decide (stTo ss (ss.length - 1) ≤ 400)) := Lib.hid (by unfold fewH; rw [h0]; simp [h40])
      generalize stTo ss (ss.length - 1) = n at *
      clear HCK b1 hR h0
      go_wp2_with fail
      refine HC.out.mono ?_
      rintro e w2 ⟨rfl, b2⟩
      have B2 := Lib.hid (B1.out.trans (b2.mono B1.out.size))
      clear b2 HC
      go_wp2_with fail
      go_ret
      exact ⟨by rw [hfe.out]; rfl, B2.out⟩
    · have hfe : Hid (fewH ss = true) := Lib.hid (by unfold fewH; simp [h40, h0])
      obtain ⟨cd, hcd⟩ : ∃ cd, cd = codeH ss := ⟨_, rfl⟩
      rw [← hcd] at HCK h0
      have hb2 : (cd != 0) = true := by simpa using h0
      clear hcd
      go_enter Tryd.func21, Tryd.ntmps21
      go_wp2_with fail
      refine HCK.out.mono ?_
      rintro e w1 ⟨rfl, b1⟩
      go_wp2_with fail
      go_ret
      exact ⟨by rw [hfe.out]; rfl, b1⟩
  · have g1 : decide ((ss.length : Int) ≤ 40) = false := by simp; omega
    have hfe : Hid (fewH ss = false) := Lib.hid (by unfold fewH; simp [h40])
    go_enter Tryd.func21, Tryd.ntmps21
    go_wp2_with fail
    go_ret
    exact ⟨by rw [hfe.out]; rfl, Below.refl _ _⟩
set_option maxRecDepth 4000 in
set_option maxHeartbeats 4000000 in
theorem walk_nil (v : Value) (ss : List Int) (i : Int) (s : ByteArray) (hm : ss.length ≤ maxLen) (w : World) (hv : IntsW .i64 w.heap.size w v ss) :
    Calls Tryd.prog 7 #[v, .int .i64 i, .string s] w fun e w' => e = .returned (.bool true) ∧ Below w.heap.size w w' := by
  obtain ⟨a, c, rfl⟩ := hv.value
  have HV := Lib.hid hv
  have HF := Lib.hid (fewS_any (.slice a ss.length c) ss hm w hv)
  have hm' := hm
  unfold maxLen at hm'
  clear hv
  by_cases hfw : fewH ss = true
  · rw [hfw] at HF
    by_cases h200 : s.size ≤ 200
    · have g1 : decide ((200 : Int) < (s.size : Int)) = false := by simp; omega
      have hl40 : ss.length ≤ 40 := by unfold fewH at hfw; simp at hfw; exact hfw.1
      clear hfw
      go_enter Tryd.func7, Tryd.ntmps7
      go_wp2_with fail
      refine HF.out.mono ?_
      rintro e w1 ⟨rfl, b1⟩
      have B1 := Lib.hid b1
      clear HF b1
      go_wp2_with fail
      refine (placeNil_any i w1).mono ?_
      rintro e w2 ⟨rfl, b2⟩
      have B2 := Lib.hid (B1.out.trans (b2.mono B1.out.size))
      clear b2 B1
      go_wp2_with fail
      refine (indexNil_any s (by omega) w2).mono ?_
      rintro e w3 ⟨rfl, b3⟩
      have B3 := Lib.hid (B2.out.trans (b3.mono B2.out.size))
      clear b3 B2
      go_wp2_with fail
      refine (sizesNil_any w3).mono ?_
      rintro e w4 ⟨rfl, b4⟩
      have B4 := Lib.hid (B3.out.trans (b4.mono B3.out.size))
      clear b4 B3
      go_wp2_with fail
      refine (linksNil_any w4).mono ?_
      rintro e w5 ⟨rfl, b5⟩
      have B5 := Lib.hid (B4.out.trans (b5.mono B4.out.size))
      clear b5 B4
      go_wp2_with fail
      refine (countNil_any w5).mono ?_
      rintro e w6 ⟨rfl, b6⟩
      have B6 := Lib.hid (B5.out.trans (b6.mono B5.out.size))
      clear b6 B5
      go_wp2_with fail
      refine (weightsNil_any i w6).mono ?_
      rintro e w7 ⟨rfl, b7⟩
      have B7 := Lib.hid (B6.out.trans (b7.mono B6.out.size))
      clear b7 B6
      have hne := fun W => neq_prange 0 0 W
      go_wp2_with fail
      refine (biasesNil_any i w7).mono ?_
      rintro e w8 ⟨rfl, b8⟩
      have B8 := Lib.hid (B7.out.trans (b8.mono B7.out.size))
      clear b8 B7
      go_wp2_with fail
      refine (nameNil_any i w8).mono ?_
      rintro e w9 ⟨rfl, b9⟩
      have B9 := Lib.hid (B8.out.trans (b9.mono B8.out.size))
      clear b9 B8
      clear hne
      have hNew := shapeNew_any (.slice a ss.length c) ss hm w9 ((HV.out.below B9.out).grow B9.out.size)
      go_wp2_with fail
      refine hNew.mono ?_
      clear hNew
      rintro e wa (⟨h0, b, rfl, hS, ba⟩ | ⟨hne, rfl, ba⟩)
      · have hR := codeH_zero.1 h0
        have h2 := hR.l2
        have h16 := hR.l16
        have BA := Lib.hid (B9.out.trans (ba.mono B9.out.size))
        have HS := Lib.hid hS
        have HZ := Lib.hid (sizes_any _ b ss hR wa hS)
        clear B9 ba hS
        go_wp2_with fail
        refine HZ.out.mono ?_
        rintro e wb ⟨x, rfl, ox, bb⟩
        have OB := Lib.hid ox
        have BB := Lib.hid bb
        have hlt : ∀ k, x.ownBlock = some k → wa.heap.size ≤ k ∧ k < wb.heap.size := fun k e => ox.lt k e
        obtain ⟨xa, xc, rfl⟩ := own_value ox
        have HLT := Lib.hid hlt
        clear HZ ox bb hlt
        go_wp2_with fail
        go_loopw [17, 106] (fun _ i wr => ∃ (j : Nat) (ys : List Int), j ≤ ss.length ∧ i = .int .i64 j ∧ ys.length = ss.length ∧ wr.ownsRow wa.heap.size 3 1 (.slice xa ss.length xc) ss.length (ys.map (Value.int .i64)) ∧ wb.grownBy wr (Value.slice xa ss.length xc).ownBlock) (fun _ i _ => ss.length - (intOf i).toNat)
        case atStart => exact ⟨0, ss, Nat.zero_le _, rfl, rfl, OB.out, World.grownBy.refl _ _⟩
        case round =>
          obtain ⟨j, ys, hj, rfl, hys, hO, hG⟩ := hrel
          by_cases hlt2 : j < ss.length
          · have hdec : decide ((j : Int) < (ss.length : Int)) = true := by simp; omega
            have wj : IntKind.i64.wrap ((j : Int) + 1) = j + 1 := IntWalk.i64_in _ (by omega)
            obtain ⟨go, oc', e0, hgo1, hgo2⟩ := own_some hO (by omega)
            cases e0
            have hx : (ys.map (Value.int .i64))[j]? = some (.int .i64 (ys[j]'(by omega))) := by rw [List.getElem?_map, List.getElem?_eq_getElem (by omega)]; rfl
            have hc := (hO.cellAt j (by omega)).trans hx
            have hf := hO.frozenAt j
            have i0 : (0 : Int) ≤ (j : Int) := by omega
            have i1 : (j : Int) < (ss.length : Int) := by omega
            generalize ys[j]'(by omega) = y at *
            have hst := hO.stored j (.int .i64 (wrap64 (y + 1)))
            rw [set_map_eq] at hst
            have HST := Lib.hid hst
            have HG := Lib.hid hG
            clear hst hG hO hx
            go_wp2_with fail
            go_roundw
            case rel => exact ⟨j + 1, _, by omega, by go_num, by rw [List.length_set]; exact hys, HST.out.1, grown_trans HG.out HST.out.2⟩
            case measure => simp [intOf]; omega
          · have hje : j = ss.length := by omega
            subst hje
            have hdec : decide ((ss.length : Int) < (ss.length : Int)) = false := by simp
            have b4 := BB.out.grown hG BB.out.size (fun k e => (HLT.out k e).1)
            have B4 := Lib.hid (BA.out.trans (b4.mono BA.out.size))
            have HS4 := Lib.hid (HS.out.later b4)
            clear hO hG b4 HLT HS BB BA OB
            go_wp2_with fail
            refine (alive08_any wr).mono ?_
            rintro e w5 ⟨rfl, b5⟩
            have B5 := Lib.hid (B4.out.trans (b5.mono B4.out.size))
            have HS5 := Lib.hid (HS4.out.later b5)
            have HCK := Lib.hid (refCheckS_any (.slice a ss.length c) ss (by unfold maxLen; omega) w5 ((HV.out.below B5.out).grow B5.out.size))
            rw [h0] at HCK
            clear B4 HS4 b5
            go_wp2_with fail
            refine HCK.out.mono ?_
            rintro e w6 ⟨rfl, b6⟩
            have B6 := Lib.hid (B5.out.trans (b6.mono B5.out.size))
            have HS6 := Lib.hid (HS5.out.later b6)
            have HZ := Lib.hid (sizes_any _ b ss hR w6 HS6.out)
            clear B5 HS5 b6 HCK
            go_wp2_with fail
            refine HZ.out.mono ?_
            rintro e w7 ⟨x, rfl, ox, b7⟩
            have B7 := Lib.hid (B6.out.trans (b7.mono B6.out.size))
            have HEQ := Lib.hid (eq_ints x (.slice a ss.length c) ss ss (by omega) (by omega) (by omega) (by omega) w7 (ints_own ox) (IntsW.pos ((HV.out.below B7.out).grow B7.out.size) (by omega)))
            rw [beq_self_eq_true] at HEQ
            obtain ⟨za, zc, rfl⟩ := own_value ox
            clear B6 HS6 b7 HZ ox
            go_wp2_with fail
            refine HEQ.out.mono ?_
            rintro e w8 ⟨rfl, b8⟩
            have B8 := Lib.hid (B7.out.trans (b8.mono B7.out.size))
            clear b8 HEQ B7
            go_wp2_with fail
            go_ret
            exact ⟨by first | rfl | simp, B8.out⟩
      · have BA := Lib.hid (B9.out.trans (ba.mono B9.out.size))
        clear B9 ba
        obtain ⟨cd, hcd⟩ : ∃ cd, cd = codeH ss := ⟨_, rfl⟩
        have HCD := Lib.hid hcd
        rw [← hcd] at hne ⊢
        clear hcd
        have hb2 : (cd != 0) = true := by simpa using hne
        have hb3 : ¬ cd = 0 := hne
        go_wp2_with fail
        refine (sizesNil_any wa).mono ?_
        rintro e wb ⟨rfl, bb⟩
        have BB := Lib.hid (BA.out.trans (bb.mono BA.out.size))
        clear BA bb
        go_wp2_with fail
        go_loopw [17, 106] (fun _ i wr => i = .int .i64 0 ∧ wr = wb) (fun _ i _ => 0)
        case atStart => exact ⟨rfl, rfl⟩
        case round =>
          obtain ⟨rfl, rfl⟩ := hrel
          go_wp2_with fail
          refine (alive08_any wr).mono ?_
          rintro e w5 ⟨rfl, b5⟩
          have B5 := Lib.hid (BB.out.trans (b5.mono BB.out.size))
          have HCK := Lib.hid (refCheckS_any (.slice a ss.length c) ss (by unfold maxLen; omega) w5 ((HV.out.below B5.out).grow B5.out.size))
          rw [← HCD.out] at HCK
          clear BB b5
          go_wp2_with fail
          refine HCK.out.mono ?_
          rintro e w6 ⟨rfl, b6⟩
          have B6 := Lib.hid (B5.out.trans (b6.mono B5.out.size))
          clear b6 HCK B5
          go_wp2_with fail
          go_ret
          exact ⟨by first | rfl | simp, B6.out⟩
    · have g1 : decide ((200 : Int) < (s.size : Int)) = true := by simp; omega
      clear hfw
      go_enter Tryd.func7, Tryd.ntmps7
      go_wp2_with fail
      refine HF.out.mono ?_
      rintro e w1 ⟨rfl, b1⟩
      go_wp2_with fail
      refine (alive08_any w1).mono ?_
      rintro e wz ⟨rfl, bz⟩
      have BZ := b1.trans (bz.mono b1.size)
      go_wp2_with fail
      go_ret
      exact ⟨by first | rfl | simp, BZ⟩
  · have hfw2 : fewH ss = false := by simpa using hfw
    rw [hfw2] at HF
    go_enter Tryd.func7, Tryd.ntmps7
    go_wp2_with fail
    refine HF.out.mono ?_
    rintro e w1 ⟨rfl, b1⟩
    go_wp2_with fail
    refine (alive08_any w1).mono ?_
    rintro e wz ⟨rfl, bz⟩
    have BZ := b1.trans (bz.mono b1.size)
    go_wp2_with fail
    go_ret
    exact ⟨by first | rfl | simp, BZ⟩
end Go.Proofs.YtdnaildhcnekfaaDoor
