/- Layer 8: ShapeNames, ShapePlaces. -/
import Derived.Test.YtdnaildhcnekfaaDoorShpU
namespace Go.Proofs.YtdnaildhcnekfaaDoor
open Go.RowKit
set_option linter.unusedVariables false
theorem equalIn_place (a b c p q r : Int) (w : World) : (Op.equalIn 10000 49 (.agg #[.int .i64 a, .int .i64 b, .int .i64 c]) (.agg #[.int .i64 p, .int .i64 q, .int .i64 r])).run Tryd.prog w = .ok ([a, b, c] == [p, q, r]) w := by
  rw [run_equalIn_agg w 9999 49 _ _ (by kernel_rfl) (by kernel_rfl)]
  have hpart : ∀ (xs : Array Value) (i : Nat) (x : Value), xs[i]? = some x → (part 3 xs i).run Tryd.prog w = .ok x w := by
    intro xs i x h
    simp [part, isAgg, run_underlying Tryd.underlying3, h]
  have hE : ∀ x y : Int, (Op.equalIn 9999 3 (.int .i64 x) (.int .i64 y)).run Tryd.prog w = .ok (x == y) w := fun x y => run_equalIn_int w 9998 3 .i64 .i64 x y Tryd.underlying3
  simp only [Program.fieldsOf, Tryd.underlying49]
  have g0 := hpart #[.int .i64 a, .int .i64 b, .int .i64 c] 0 (.int .i64 a) rfl
  have g1 := hpart #[.int .i64 a, .int .i64 b, .int .i64 c] 1 (.int .i64 b) rfl
  have g2 := hpart #[.int .i64 a, .int .i64 b, .int .i64 c] 2 (.int .i64 c) rfl
  have k0 := hpart #[.int .i64 p, .int .i64 q, .int .i64 r] 0 (.int .i64 p) rfl
  have k1 := hpart #[.int .i64 p, .int .i64 q, .int .i64 r] 1 (.int .i64 q) rfl
  have k2 := hpart #[.int .i64 p, .int .i64 q, .int .i64 r] 2 (.int .i64 r) rfl
  clear hpart
  simp only [Op.eqFields, ne_eq, String.reduceEq, not_false_eq_true, if_true, Sem.run_bind, Sem.run_ite, g0, g1, g2, k0, k1, k2, hE, Result.andThen_ok, Sem.run_pure]
  by_cases h0 : a = p
  · by_cases h1 : b = q
    · by_cases h2 : c = r
      · simp [h0, h1, h2]
      · simp [h0, h1, h2]
    · simp [h0, h1]
  · simp [h0]
theorem eql_place (a b c : Int) (w : World) : (binOp .eql 49 (.agg #[.int .i64 a, .int .i64 b, .int .i64 c]) (.agg #[.int .i64 a, .int .i64 b, .int .i64 c])).run Tryd.prog w = .ok (.bool true) w := by
  rw [run_eql_struct, equalIn_place, beq_self_eq_true]
  rfl
set_option maxRecDepth 8000 in
set_option maxHeartbeats 4000000 in
theorem walk_names (v : Value) (ss : List Int) (s : ByteArray) (hm : ss.length ≤ maxLen) (w : World) (ht : Pow10 w) (hv : IntsW .i64 w.heap.size w v ss) :
    Calls Tryd.prog 6 #[v, .string s] w fun e w' => e = .returned (.bool true) ∧ Below w.heap.size w w' := by
  obtain ⟨a, c, rfl⟩ := hv.value
  have HV := Lib.hid hv
  have HT := Lib.hid ht
  have HF := Lib.hid (fewS_any (.slice a ss.length c) ss hm w hv)
  have HCK := Lib.hid (fun W (hW : Below w.heap.size w W) => refCheckS_any (.slice a ss.length c) ss hm W ((HV.out.below hW).grow hW.size))
  have hm' := hm
  unfold maxLen at hm'
  clear hv ht
  by_cases hfw : fewH ss = true
  · rw [hfw] at HF
    obtain ⟨cd, hcd⟩ : ∃ cd, cd = codeH ss := ⟨_, rfl⟩
    rw [← hcd] at HCK
    by_cases hc0 : cd = 0
    · subst hc0
      have hR := codeH_zero.1 hcd.symm
      have h0 : codeH ss = 0 := hcd.symm
      have h16 := hR.l16
      have h2 := hR.l2
      clear hcd hm
      by_cases h200 : s.size ≤ 200
      · have g1 : decide ((200 : Int) < (s.size : Int)) = false := by simp; omega
        go_enter Tryd.func6, Tryd.ntmps6
        go_wp2_with fail
        refine HF.out.mono ?_
        rintro e w1 ⟨rfl, b1⟩
        have B1 := Lib.hid b1
        clear HF b1
        go_wp2_with fail
        refine (HCK.out w1 B1.out).mono ?_
        rintro e w2 ⟨rfl, b2⟩
        have B2 := Lib.hid (B1.out.trans (b2.mono B1.out.size))
        clear HCK B1 b2
        have hNew := shapeNew_any (.slice a ss.length c) ss (by unfold maxLen; omega) w2 ((HV.out.below B2.out).grow B2.out.size)
        go_wp2_with fail
        refine hNew.mono ?_
        clear hNew
        rintro e w3 (⟨_, b, rfl, hS, b3⟩ | ⟨hne, _⟩)
        rotate_left
        · exact absurd h0 hne
        have B3 := Lib.hid (B2.out.trans (b3.mono B2.out.size))
        have HS3 := Lib.hid hS
        clear B2 b3 hS
        have HI := Lib.hid (index_any _ b ss hR s (by omega) w3 HS3.out (HT.out.later B3.out))
        generalize hidx : idxV ss s = id at *
        obtain ⟨n, ok⟩ := id
        go_wp2_with fail
        refine HI.out.mono ?_
        rintro e w4 ⟨rfl, b4⟩
        have B4 := Lib.hid (B3.out.trans (b4.mono B3.out.size))
        have HRI := Lib.hid (refIndex_any (.slice a ss.length c) ss hR s w4 (IntsW.pos ((HV.out.below B4.out).grow B4.out.size) (by omega)))
        rw [hidx] at HRI
        clear B3 b4 HI HS3
        dsimp only
        go_wp2_with fail
        refine HRI.out.mono ?_
        rintro e w5 ⟨rfl, b5⟩
        have B5 := Lib.hid (B4.out.trans (b5.mono B4.out.size))
        clear B4 b5 HRI hidx
        dsimp only
        have heq : (ok == ok) = true := by simp
        go_wp2_with fail
        refine (alive08_any w5).mono ?_
        rintro e w6 ⟨rfl, b6⟩
        have B6 := B5.out.trans (b6.mono B5.out.size)
        clear B5 b6
        go_wp2_with fail
        go_ret
        exact ⟨by first | rfl | simp, B6⟩
      · have g1 : decide ((200 : Int) < (s.size : Int)) = true := by simp; omega
        go_enter Tryd.func6, Tryd.ntmps6
        go_wp2_with fail
        refine HF.out.mono ?_
        rintro e w1 ⟨rfl, b1⟩
        have B1 := Lib.hid b1
        clear HF b1
        go_wp2_with fail
        refine (HCK.out w1 B1.out).mono ?_
        rintro e w2 ⟨rfl, b2⟩
        have B2 := B1.out.trans (b2.mono B1.out.size)
        clear B1 b2 HCK
        go_wp2_with fail
        refine (alive08_any w2).mono ?_
        rintro e wz ⟨rfl, bz⟩
        have BZ := B2.trans (bz.mono B2.size)
        go_wp2_with fail
        go_ret
        exact ⟨by first | rfl | simp, BZ⟩
    · have hb2 : (cd != 0) = true := by simpa using hc0
      go_enter Tryd.func6, Tryd.ntmps6
      go_wp2_with fail
      refine HF.out.mono ?_
      rintro e w1 ⟨rfl, b1⟩
      have B1 := Lib.hid b1
      clear HF b1
      go_wp2_with fail
      refine (HCK.out w1 B1.out).mono ?_
      rintro e w2 ⟨rfl, b2⟩
      have B2 := B1.out.trans (b2.mono B1.out.size)
      clear B1 b2 HCK
      go_wp2_with fail
      refine (alive08_any w2).mono ?_
      rintro e wz ⟨rfl, bz⟩
      have BZ := B2.trans (bz.mono B2.size)
      go_wp2_with fail
      go_ret
      exact ⟨by first | rfl | simp, BZ⟩
  · have hfw2 : fewH ss = false := by simpa using hfw
    rw [hfw2] at HF
    go_enter Tryd.func6, Tryd.ntmps6
    go_wp2_with fail
    refine HF.out.mono ?_
    rintro e w1 ⟨rfl, b1⟩
    have B1 := Lib.hid b1
    clear HF b1
    go_wp2_with fail
    refine (alive08_any w1).mono ?_
    rintro e wz ⟨rfl, bz⟩
    have BZ := B1.out.trans (bz.mono B1.out.size)
    go_wp2_with fail
    go_ret
    exact ⟨by first | rfl | simp, BZ⟩
set_option maxRecDepth 8000 in
set_option maxHeartbeats 4000000 in
theorem walk_places (v : Value) (ss : List Int) (i : Int) (hi : -9223372036854775808 ≤ i ∧ i ≤ 9223372036854775807) (hm : ss.length ≤ maxLen) (w : World) (ht : Pow10 w) (hv : IntsW .i64 w.heap.size w v ss) :
    Calls Tryd.prog 5 #[v, .int .i64 i] w fun e w' => e = .returned (.bool true) ∧ Below w.heap.size w w' := by
  obtain ⟨a, c, rfl⟩ := hv.value
  have HV := Lib.hid hv
  have HT := Lib.hid ht
  have HF := Lib.hid (fewS_any (.slice a ss.length c) ss hm w hv)
  have HCK := Lib.hid (fun W (hW : Below w.heap.size w W) => refCheckS_any (.slice a ss.length c) ss hm W ((HV.out.below hW).grow hW.size))
  have hm' := hm
  unfold maxLen at hm'
  clear hv ht
  by_cases hfw : fewH ss = true
  · rw [hfw] at HF
    obtain ⟨cd, hcd⟩ : ∃ cd, cd = codeH ss := ⟨_, rfl⟩
    rw [← hcd] at HCK
    by_cases hc0 : cd = 0
    · subst hc0
      have hR := codeH_zero.1 hcd.symm
      have h0 : codeH ss = 0 := hcd.symm
      have h16 := hR.l16
      have h2 := hR.l2
      clear hcd hm
      go_enter Tryd.func5, Tryd.ntmps5
      go_wp2_with fail
      refine HF.out.mono ?_
      rintro e w1 ⟨rfl, b1⟩
      have B1 := Lib.hid b1
      clear HF b1
      go_wp2_with fail
      refine (HCK.out w1 B1.out).mono ?_
      rintro e w2 ⟨rfl, b2⟩
      have B2 := Lib.hid (B1.out.trans (b2.mono B1.out.size))
      clear HCK B1 b2
      have hNew := shapeNew_any (.slice a ss.length c) ss (by unfold maxLen; omega) w2 ((HV.out.below B2.out).grow B2.out.size)
      go_wp2_with fail
      refine hNew.mono ?_
      clear hNew
      rintro e w3 (⟨_, b, rfl, hS, b3⟩ | ⟨hne, _⟩)
      rotate_left
      · exact absurd h0 hne
      have B3 := Lib.hid (B2.out.trans (b3.mono B2.out.size))
      have HS3 := Lib.hid hS
      clear B2 b3 hS
      have HPL := Lib.hid (refPlaces_any (.slice a ss.length c) ss hR w3 (IntsW.pos ((HV.out.below B3.out).grow B3.out.size) (by omega)))
      have hlen := placesL_length hR (ss.length - 1) (by omega)
      have hcnt := hR.cnt
      go_wp2_with fail
      refine HPL.out.mono ?_
      rintro e w4 ⟨x, rfl, ox, b4⟩
      have OX := Lib.hid ox
      obtain ⟨xa, xc, rfl⟩ := own_value ox
      have B4 := Lib.hid (B3.out.trans (b4.mono B3.out.size))
      have HS4 := Lib.hid (HS3.out.later b4)
      have HP := Lib.hid (place_any _ b ss hR i hi w4 HS4.out)
      clear HPL ox b4 B3 HS3
      generalize hln : (placesL ss (ss.length - 1)).length = ln at *
      have HLN := Lib.hid hln
      clear hln
      rcases (show (0 ≤ i ∧ i < stTo ss (ss.length - 1)) ∨ (i < 0 ∨ stTo ss (ss.length - 1) ≤ i) by omega) with hin | hout
      · obtain ⟨k, r, q, hl, hp, he, hg, ak, ar, aq⟩ := nameAt_in hR i hin.1 hin.2
        rw [hp] at HP
        have g0 : decide (i < 0) = false := by simp; omega
        have g1 : decide ((ln : Int) ≤ i) = false := by simp; omega
        have g00 : ¬ i < 0 := by omega
        have g11 : ¬ (ln : Int) ≤ i := by omega
        have HNM := Lib.hid (fun W (hW : Below w4.heap.size w4 W) => nameAt_any _ b ss hR i hi W (HS4.out.later hW) (HT.out.later (B4.out.trans (hW.mono B4.out.size))))
        have HIX := Lib.hid (fun W (hW : Below w4.heap.size w4 W) => index_any _ b ss hR (nameAt ss i) (by
          rw [he]
          have l1 := smallD_len k ak.2
          have l2 := smallD_len r ar.2
          have l3 := smallD_len q aq.2
          show (nameL (k, r, q)).toArray.size ≤ 1000
          rw [List.size_toArray]
          unfold smallD at l1 l2 l3
          rw [dec_digs] at l1 l2 l3
          unfold nameL name2 name3
          dsimp only
          split
          · simp at *; omega
          · simp at *; omega) W (HS4.out.later hW) (HT.out.later (B4.out.trans (hW.mono B4.out.size))))
        have hidx : idxV ss (nameAt ss i) = (i, true) := by
          have := idx_found hR (nameAt ss i) i.toNat (k, r, q) hl (by rw [he, list_bytes])
          rw [this, Int.toNat_of_nonneg hin.1]
        rw [hidx] at HIX
        rw [he] at HNM HIX
        have HRN := Lib.hid (fun W => refName_any k r q ak ar aq W)
        obtain ⟨nl, hnl⟩ : ∃ nl, nl = nameL (k, r, q) := ⟨_, rfl⟩
        rw [← hnl] at HNM HIX HRN
        obtain ⟨j, hj⟩ : ∃ j : Nat, i = j := ⟨i.toNat, by omega⟩
        rw [hj, Int.toNat_natCast] at hl
        obtain ⟨q0, q1, q2⟩ := pcells_at _ j _ hl
        rw [Nat.mul_comm] at q0 q1 q2
        obtain ⟨g, cc, e0, hg1, hg2⟩ := own_some OX.out (by omega)
        cases e0
        have d0 := (OX.out.cellAt (j * 3) (by omega)).trans q0
        have d1 := (OX.out.cellAt (j * 3 + 1) (by omega)).trans q1
        have d2 := (OX.out.cellAt (j * 3 + 2) (by omega)).trans q2
        dsimp only at d0 d1 d2
        subst hj
        clear hnl he hg hp hidx q0 q1 q2 hl ak ar aq hi HS4 OX
        have HD := Lib.hid (And.intro d0 (And.intro d1 d2))
        have i2 : j < ln := by omega
        clear d0 d1 d2
        go_wp2_with fail
        refine HP.out.mono ?_
        rintro e w5 ⟨rfl, b5⟩
        have B5 := Lib.hid b5
        clear HP b5
        dsimp only
        go_wp2_with fail
        refine (HNM.out w5 B5.out).mono ?_
        rintro e w6 ⟨rfl, b6⟩
        have B6 := Lib.hid (B5.out.trans (b6.mono B5.out.size))
        clear B5 b6
        go_wp2_with fail
        refine (HIX.out w6 B6.out).mono ?_
        rintro e w7 ⟨rfl, b7⟩
        have B7 := Lib.hid (B6.out.trans (b7.mono B6.out.size))
        clear B6 b7 HIX
        dsimp only
        have c0 := cell_step B7.out HD.out.1
        have c1 := cell_step B7.out HD.out.2.1
        have c2 := cell_step B7.out HD.out.2.2
        have i0 : (0 : Int) ≤ (j : Int) := by omega
        have i1 : (j : Int) < (ln : Int) := by omega
        clear HD
        go_upto_region 9 with fail
        refine wp_region_held_drew (S := fun w' => w'.cell? ⟨g, j * 3, none⟩ = some (.int .i64 k) ∧ w'.cell? ⟨g, j * 3 + 1, none⟩ = some (.int .i64 r) ∧ w'.cell? ⟨g, j * 3 + 2, none⟩ = some (.int .i64 q) ∧ Below w7.heap.size w7 w') (by kernel_rfl) ?_ (fun hHeld => ?_)
        · exact ⟨c0, c1, c2, (Below.refl _ _).drew⟩
        have heq := fun W => eql_place k r q W
        have hnn : (nl == nl) = true := by simp
        clear c0 c1 c2
        refine wpAnyH_ready (rs := [0]) (by kernel_rfl) (by simp) ?_
        refine AllReadyH.cons rfl (fun K hK => ?_) AllReadyH.nil
        simp only [List.getElem_toArray, List.getElem_cons_zero]
        go_simp
        go_at_call 8
        obtain ⟨h_0, h_1, h_2, h_B⟩ := hHeld
        refine (alive08_any _).mono ?_
        rintro e w_k1 ⟨rfl, k1⟩
        have hb1 := Lib.hid (below_step h_B k1)
        go_wp2_with fail
        refine hK.out _ _ ⟨cell_step k1 h_0, cell_step k1 h_1, cell_step k1 h_2, below_step h_B k1⟩ (fun hHeld => ?_)
        clear hK K h_0 h_1 h_2 h_B
        try simp only [Act.put, List.setIfInBounds_toArray, List.set_cons_zero, List.set_cons_succ, List.getElem_toArray, List.getElem_cons_zero, List.getElem_cons_succ]
        refine wpAnyH_take (i := 1) (v := ?v1) rfl (by kernel_rfl) (by kernel_rfl) (by kernel_rfl) (fun _ _ _ h => h) (Or.inl ⟨by rfl, ?hy1⟩) (by assumption) ?rest1
        case hy1 => (intro w hSw; (try dsimp only at hSw); go_simp; (first | done | with_reducible rfl))
        simp only [Act.put, List.setIfInBounds_toArray, List.set_cons_zero, List.set_cons_succ, List.getElem_toArray, List.getElem_cons_zero, List.getElem_cons_succ]
        refine wpAnyH_take (i := 2) (v := ?v2) rfl (by kernel_rfl) (by kernel_rfl) (by kernel_rfl) (fun _ _ _ h => h) (Or.inl ⟨by rfl, ?hy2⟩) (by assumption) ?rest2
        case hy2 => (intro w hSw; (try dsimp only at hSw); go_simp; (first | done | with_reducible rfl))
        simp only [Act.put, List.setIfInBounds_toArray, List.set_cons_zero, List.set_cons_succ, List.getElem_toArray, List.getElem_cons_zero, List.getElem_cons_succ]
        refine wpAnyH_take (i := 3) (v := ?v3) rfl (by kernel_rfl) (by kernel_rfl) (by kernel_rfl) (fun _ _ _ h => h) (Or.inl ⟨by rfl, ?hy3⟩) (by assumption) ?rest3
        case hy3 => (intro w hSw; (try dsimp only at hSw); go_simp; (first | done | with_reducible rfl))
        simp only [Act.put, List.setIfInBounds_toArray, List.set_cons_zero, List.set_cons_succ, List.getElem_toArray, List.getElem_cons_zero, List.getElem_cons_succ]
        refine wpAnyH_take (i := 4) (v := ?v4) rfl (by kernel_rfl) (by kernel_rfl) (by kernel_rfl) (fun _ _ _ h => h) (Or.inl ⟨by rfl, ?hy4⟩) (by assumption) ?rest4
        case hy4 => (intro w hSw; (try dsimp only at hSw); go_simp; (first | done | with_reducible rfl))
        simp only [Act.put, List.setIfInBounds_toArray, List.set_cons_zero, List.set_cons_succ, List.getElem_toArray, List.getElem_cons_zero, List.getElem_cons_succ]
        refine wpAnyH_take (i := 5) (v := ?v5) rfl (by kernel_rfl) (by kernel_rfl) (by kernel_rfl) (fun _ _ _ h => h) (Or.inl ⟨by rfl, ?hy5⟩) (by assumption) ?rest5
        case hy5 => (intro w hSw; (try dsimp only at hSw); go_simp; (first | done | with_reducible rfl))
        simp only [Act.put, List.setIfInBounds_toArray, List.set_cons_zero, List.set_cons_succ, List.getElem_toArray, List.getElem_cons_zero, List.getElem_cons_succ]
        refine wpAnyH_take (i := 6) (v := ?v6) rfl (by kernel_rfl) (by kernel_rfl) (by kernel_rfl) (fun _ _ _ h => h) (Or.inl ⟨by rfl, ?hy6⟩) (by assumption) ?rest6
        case hy6 => (intro w hSw; (try dsimp only at hSw); go_simp; (first | done | with_reducible rfl))
        simp only [Act.put, List.setIfInBounds_toArray, List.set_cons_zero, List.set_cons_succ, List.getElem_toArray, List.getElem_cons_zero, List.getElem_cons_succ]
        refine wpAnyH_take (i := 7) (v := ?v7) rfl (by kernel_rfl) (by kernel_rfl) (by kernel_rfl) (fun _ _ _ h => h) (Or.inl ⟨by rfl, ?hy7⟩) (by assumption) ?rest7
        case hy7 => (intro w hSw; (try dsimp only at hSw); go_simp; (first | done | with_reducible rfl))
        simp only [Act.put, List.setIfInBounds_toArray, List.set_cons_zero, List.set_cons_succ, List.getElem_toArray, List.getElem_cons_zero, List.getElem_cons_succ]
        refine wpAnyH_take (i := 8) (v := ?v8) rfl (by kernel_rfl) (by kernel_rfl) (by kernel_rfl) (fun _ _ _ h => h) (Or.inl ⟨by rfl, ?hy8⟩) (by assumption) ?rest8
        case hy8 => (intro w hSw; (try dsimp only at hSw); go_simp; (first | done | with_reducible rfl))
        simp only [Act.put, List.setIfInBounds_toArray, List.set_cons_zero, List.set_cons_succ, List.getElem_toArray, List.getElem_cons_zero, List.getElem_cons_succ]
        refine wpAnyH_take (i := 9) (v := ?v9) rfl (by kernel_rfl) (by kernel_rfl) (by kernel_rfl) (fun _ _ _ h => h) (Or.inl ⟨by rfl, ?hy9⟩) (by assumption) ?rest9
        case hy9 => (intro w hSw; (try dsimp only at hSw); go_simp; (first | done | with_reducible rfl))
        simp only [Act.put, List.setIfInBounds_toArray, List.set_cons_zero, List.set_cons_succ, List.getElem_toArray, List.getElem_cons_zero, List.getElem_cons_succ]
        refine wpAnyH_take (i := 10) (v := ?v10) rfl (by kernel_rfl) (by kernel_rfl) (by kernel_rfl) (fun _ _ _ h => h) (Or.inl ⟨by rfl, ?hy10⟩) (by assumption) ?rest10
        case hy10 => (intro w hSw; (try dsimp only at hSw); go_simp; (first | done | with_reducible rfl))
        simp only [Act.put, List.setIfInBounds_toArray, List.set_cons_zero, List.set_cons_succ, List.getElem_toArray, List.getElem_cons_zero, List.getElem_cons_succ]
        refine wpAnyH_take (i := 11) (v := ?v11) rfl (by kernel_rfl) (by kernel_rfl) (by kernel_rfl) (fun _ _ _ h => h) (Or.inl ⟨by rfl, ?hy11⟩) (by assumption) ?rest11
        case hy11 => (intro w hSw; (try dsimp only at hSw); go_simp; (first | done | with_reducible rfl))
        simp only [Act.put, List.setIfInBounds_toArray, List.set_cons_zero, List.set_cons_succ, List.getElem_toArray, List.getElem_cons_zero, List.getElem_cons_succ]
        refine wpAnyH_take (i := 12) (v := ?v12) rfl (by kernel_rfl) (by kernel_rfl) (by kernel_rfl) (fun _ _ _ h => h) (Or.inl ⟨by rfl, ?hy12⟩) (by assumption) ?rest12
        case hy12 => (intro w hSw; (try dsimp only at hSw); go_simp; (first | done | with_reducible rfl))
        simp only [Act.put, List.setIfInBounds_toArray, List.set_cons_zero, List.set_cons_succ, List.getElem_toArray, List.getElem_cons_zero, List.getElem_cons_succ]
        refine wpAnyH_take (i := 13) (v := ?v13) rfl (by kernel_rfl) (by kernel_rfl) (by kernel_rfl) (fun _ _ _ h => h) (Or.inl ⟨by rfl, ?hy13⟩) (by assumption) ?rest13
        case hy13 => (intro w hSw; (try dsimp only at hSw); go_simp; (first | done | with_reducible rfl))
        simp only [Act.put, List.setIfInBounds_toArray, List.set_cons_zero, List.set_cons_succ, List.getElem_toArray, List.getElem_cons_zero, List.getElem_cons_succ]
        refine wpAnyH_take (i := 14) (v := ?v14) rfl (by kernel_rfl) (by kernel_rfl) (by kernel_rfl) (fun _ _ _ h => h) (Or.inl ⟨by rfl, ?hy14⟩) (by assumption) ?rest14
        case hy14 => (intro w hSw; (try dsimp only at hSw); go_simp; (first | done | with_reducible rfl))
        simp only [Act.put, List.setIfInBounds_toArray, List.set_cons_zero, List.set_cons_succ, List.getElem_toArray, List.getElem_cons_zero, List.getElem_cons_succ]
        refine wpAnyH_take (i := 15) (v := ?v15) rfl (by kernel_rfl) (by kernel_rfl) (by kernel_rfl) (fun _ _ _ h => h) (Or.inl ⟨by rfl, ?hy15⟩) (by assumption) ?rest15
        case hy15 => (intro w hSw; (try dsimp only at hSw); go_simp; (first | done | with_reducible rfl))
        simp only [Act.put, List.setIfInBounds_toArray, List.set_cons_zero, List.set_cons_succ, List.getElem_toArray, List.getElem_cons_zero, List.getElem_cons_succ]
        refine wpAnyH_take (i := 16) (v := ?v16) rfl (by kernel_rfl) (by kernel_rfl) (by kernel_rfl) (fun _ _ _ h => h) (Or.inl ⟨by rfl, ?hy16⟩) (by assumption) ?rest16
        case hy16 => (intro w hSw; (try dsimp only at hSw); go_simp; (first | done | with_reducible rfl))
        simp only [Act.put, List.setIfInBounds_toArray, List.set_cons_zero, List.set_cons_succ, List.getElem_toArray, List.getElem_cons_zero, List.getElem_cons_succ]
        refine wpAnyH_take (i := 17) (v := ?v17) rfl (by kernel_rfl) (by kernel_rfl) (by kernel_rfl) (fun _ _ _ h => h) (Or.inl ⟨by rfl, ?hy17⟩) (by assumption) ?rest17
        case hy17 => (intro w hSw; (try dsimp only at hSw); go_simp; (first | done | with_reducible rfl))
        simp only [Act.put, List.setIfInBounds_toArray, List.set_cons_zero, List.set_cons_succ, List.getElem_toArray, List.getElem_cons_zero, List.getElem_cons_succ]
        refine wpAnyH_take (i := 19) (v := ?v18) rfl (by kernel_rfl) (by kernel_rfl) (by kernel_rfl) (fun _ _ _ h => h) (Or.inl ⟨by rfl, ?hy18⟩) (by assumption) ?rest18
        case hy18 => (intro w hSw; (try dsimp only at hSw); go_simp; (first | done | with_reducible rfl))
        simp only [Act.put, List.setIfInBounds_toArray, List.set_cons_zero, List.set_cons_succ, List.getElem_toArray, List.getElem_cons_zero, List.getElem_cons_succ]
        refine wpAnyH_take (i := 20) (v := ?v19) rfl (by kernel_rfl) (by kernel_rfl) (by kernel_rfl) (fun _ _ _ h => h) (Or.inl ⟨by rfl, ?hy19⟩) (by assumption) ?rest19
        case hy19 => (intro w hSw; (try dsimp only at hSw); go_simp; (first | done | with_reducible rfl))
        simp only [Act.put, List.setIfInBounds_toArray, List.set_cons_zero, List.set_cons_succ, List.getElem_toArray, List.getElem_cons_zero, List.getElem_cons_succ]
        refine wpAnyH_take (i := 21) (v := ?v20) rfl (by kernel_rfl) (by kernel_rfl) (by kernel_rfl) (fun _ _ _ h => h) (Or.inl ⟨by rfl, ?hy20⟩) (by assumption) ?rest20
        case hy20 => (intro w hSw; (try dsimp only at hSw); go_simp; (first | done | with_reducible rfl))
        simp only [Act.put, List.setIfInBounds_toArray, List.set_cons_zero, List.set_cons_succ, List.getElem_toArray, List.getElem_cons_zero, List.getElem_cons_succ]
        refine wpAnyH_take (i := 22) (v := ?v21) rfl (by kernel_rfl) (by kernel_rfl) (by kernel_rfl) (fun _ _ _ h => h) (Or.inl ⟨by rfl, ?hy21⟩) (by assumption) ?rest21
        case hy21 => (intro w hSw; (try dsimp only at hSw); go_simp; (first | done | with_reducible rfl))
        simp only [Act.put, List.setIfInBounds_toArray, List.set_cons_zero, List.set_cons_succ, List.getElem_toArray, List.getElem_cons_zero, List.getElem_cons_succ]
        refine wpAnyH_ready (rs := [18]) (by kernel_rfl) (by simp) ?_
        refine AllReadyH.cons rfl (fun K hK => ?_) AllReadyH.nil
        simp only [List.getElem_toArray, List.getElem_cons_zero, List.getElem_cons_succ]
        go_simp
        go_at_call 24
        obtain ⟨h_0, h_1, h_2, h_B⟩ := hHeld
        refine (HNM.out _ (B7.out.trans (h_B.mono B7.out.size))).mono ?_
        rintro e w_k2 ⟨rfl, k2⟩
        have hb2 := Lib.hid (below_step h_B k2)
        go_wp2_with fail
        refine hK.out _ _ ⟨cell_step k2 h_0, cell_step k2 h_1, cell_step k2 h_2, below_step h_B k2⟩ (fun hHeld => ?_)
        clear hK K h_0 h_1 h_2 h_B
        try simp only [Act.put, List.setIfInBounds_toArray, List.set_cons_zero, List.set_cons_succ, List.getElem_toArray, List.getElem_cons_zero, List.getElem_cons_succ]
        refine wpAnyH_ready (rs := [23]) (by kernel_rfl) (by simp) ?_
        refine AllReadyH.cons rfl (fun K hK => ?_) AllReadyH.nil
        simp only [List.getElem_toArray, List.getElem_cons_zero, List.getElem_cons_succ]
        go_simp
        go_at_call 26
        obtain ⟨h_0, h_1, h_2, h_B⟩ := hHeld
        refine (HRN.out _).mono ?_
        rintro e w_k3 ⟨rfl, k3⟩
        have hb3 := Lib.hid (below_step h_B k3)
        go_wp2_with fail
        refine hK.out _ _ ⟨cell_step k3 h_0, cell_step k3 h_1, cell_step k3 h_2, below_step h_B k3⟩ (fun hHeld => ?_)
        clear hK K h_0 h_1 h_2 h_B
        try simp only [Act.put, List.setIfInBounds_toArray, List.set_cons_zero, List.set_cons_succ, List.getElem_toArray, List.getElem_cons_zero, List.getElem_cons_succ]
        refine wpAnyH_take (i := 24) (v := ?v22) rfl (by kernel_rfl) (by kernel_rfl) (by kernel_rfl) (fun _ _ _ h => h) (Or.inl ⟨by rfl, ?hy22⟩) (by assumption) ?rest22
        case hy22 => (intro w hSw; (try dsimp only at hSw); go_simp; (first | done | with_reducible rfl))
        simp only [Act.put, List.setIfInBounds_toArray, List.set_cons_zero, List.set_cons_succ, List.getElem_toArray, List.getElem_cons_zero, List.getElem_cons_succ]
        refine wpAnyH_take (i := 25) (v := ?v23) rfl (by kernel_rfl) (by kernel_rfl) (by kernel_rfl) (fun _ _ _ h => h) (Or.inl ⟨by rfl, ?hy23⟩) (by assumption) ?rest23
        case hy23 => (intro w hSw; (try dsimp only at hSw); go_simp; (first | done | with_reducible rfl))
        simp only [Act.put, List.setIfInBounds_toArray, List.set_cons_zero, List.set_cons_succ, List.getElem_toArray, List.getElem_cons_zero, List.getElem_cons_succ]
        refine wpAnyH_take (i := 26) (v := ?v24) rfl (by kernel_rfl) (by kernel_rfl) (by kernel_rfl) (fun _ _ _ h => h) (Or.inl ⟨by rfl, ?hy24⟩) (by assumption) ?rest24
        case hy24 => (intro w hSw; (try dsimp only at hSw); go_simp; (first | done | with_reducible rfl))
        simp only [Act.put, List.setIfInBounds_toArray, List.set_cons_zero, List.set_cons_succ, List.getElem_toArray, List.getElem_cons_zero, List.getElem_cons_succ]
        refine wpAnyH_take (i := 27) (v := ?v25) rfl (by kernel_rfl) (by kernel_rfl) (by kernel_rfl) (fun _ _ _ h => h) (Or.inl ⟨by rfl, ?hy25⟩) (by assumption) ?rest25
        case hy25 => (intro w hSw; (try dsimp only at hSw); go_simp; (first | done | with_reducible rfl))
        simp only [Act.put, List.setIfInBounds_toArray, List.set_cons_zero, List.set_cons_succ, List.getElem_toArray, List.getElem_cons_zero, List.getElem_cons_succ]
        refine wpAnyH_take (i := 28) (v := ?v26) rfl (by kernel_rfl) (by kernel_rfl) (by kernel_rfl) (fun _ _ _ h => h) (Or.inl ⟨by rfl, ?hy26⟩) (by assumption) ?rest26
        case hy26 => (intro w hSw; (try dsimp only at hSw); go_simp; (first | done | with_reducible rfl))
        simp only [Act.put, List.setIfInBounds_toArray, List.set_cons_zero, List.set_cons_succ, List.getElem_toArray, List.getElem_cons_zero, List.getElem_cons_succ]
        refine wpAnyH_take (i := 29) (v := ?v27) rfl (by kernel_rfl) (by kernel_rfl) (by kernel_rfl) (fun _ _ _ h => h) (Or.inl ⟨by rfl, ?hy27⟩) (by assumption) ?rest27
        case hy27 => (intro w hSw; (try dsimp only at hSw); go_simp; (first | done | with_reducible rfl))
        simp only [Act.put, List.setIfInBounds_toArray, List.set_cons_zero, List.set_cons_succ, List.getElem_toArray, List.getElem_cons_zero, List.getElem_cons_succ]
        refine wpAnyH_take (i := 30) (v := ?v28) rfl (by kernel_rfl) (by kernel_rfl) (by kernel_rfl) (fun _ _ _ h => h) (Or.inl ⟨by rfl, ?hy28⟩) (by assumption) ?rest28
        case hy28 => (intro w hSw; (try dsimp only at hSw); go_simp; (first | done | with_reducible rfl))
        simp only [Act.put, List.setIfInBounds_toArray, List.set_cons_zero, List.set_cons_succ, List.getElem_toArray, List.getElem_cons_zero, List.getElem_cons_succ]
        refine wpAnyH_take (i := 31) (v := ?v29) rfl (by kernel_rfl) (by kernel_rfl) (by kernel_rfl) (fun _ _ _ h => h) (Or.inl ⟨by rfl, ?hy29⟩) (by assumption) ?rest29
        case hy29 => (intro w hSw; (try dsimp only at hSw); go_simp; (first | done | with_reducible rfl))
        simp only [Act.put, List.setIfInBounds_toArray, List.set_cons_zero, List.set_cons_succ, List.getElem_toArray, List.getElem_cons_zero, List.getElem_cons_succ]
        refine wpAnyH_take (i := 32) (v := ?v30) rfl (by kernel_rfl) (by kernel_rfl) (by kernel_rfl) (fun _ _ _ h => h) (Or.inl ⟨by rfl, ?hy30⟩) (by assumption) ?rest30
        case hy30 => (intro w hSw; (try dsimp only at hSw); go_simp; (first | done | with_reducible rfl))
        simp only [Act.put, List.setIfInBounds_toArray, List.set_cons_zero, List.set_cons_succ, List.getElem_toArray, List.getElem_cons_zero, List.getElem_cons_succ]
        refine wpAnyH_take (i := 33) (v := ?v31) rfl (by kernel_rfl) (by kernel_rfl) (by kernel_rfl) (fun _ _ _ h => h) (Or.inl ⟨by rfl, ?hy31⟩) (by assumption) ?rest31
        case hy31 => (intro w hSw; (try dsimp only at hSw); go_simp; (first | done | with_reducible rfl))
        simp only [Act.put, List.setIfInBounds_toArray, List.set_cons_zero, List.set_cons_succ, List.getElem_toArray, List.getElem_cons_zero, List.getElem_cons_succ]
        refine wpAnyH_take (i := 34) (v := ?v32) rfl (by kernel_rfl) (by kernel_rfl) (by kernel_rfl) (fun _ _ _ h => h) (Or.inl ⟨by rfl, ?hy32⟩) (by assumption) ?rest32
        case hy32 => (intro w hSw; (try dsimp only at hSw); go_simp; (first | done | with_reducible rfl))
        simp only [Act.put, List.setIfInBounds_toArray, List.set_cons_zero, List.set_cons_succ, List.getElem_toArray, List.getElem_cons_zero, List.getElem_cons_succ]
        refine wpAnyH_done (by kernel_rfl) ?_ _
        obtain ⟨_, _, _, h_B⟩ := hHeld
        have BZ := B4.out.trans ((B7.out.trans (h_B.mono B7.out.size)).mono B4.out.size)
        clear h_B hb1 hb2 hb3 HNM HRN
        go_wp2_with fail
        go_ret
        exact ⟨by first | rfl | simp, BZ⟩
      · have hp := place_out hR i hout
        have hna := nameAt_out hR i hout
        rw [hp] at HP
        have HNM := Lib.hid (fun W (hW : Below w4.heap.size w4 W) => nameAt_any _ b ss hR i hi W (HS4.out.later hW) (HT.out.later (B4.out.trans (hW.mono B4.out.size))))
        rw [hna] at HNM
        clear hp hna
        go_wp2_with fail
        refine HP.out.mono ?_
        rintro e w5 ⟨rfl, b5⟩
        have B5 := Lib.hid b5
        clear HP b5
        dsimp only
        by_cases hneg : i < 0
        · have g0 : decide (i < 0) = true := by simpa using hneg
          go_wp2_with fail
          refine (alive08_any w5).mono ?_
          rintro e w6 ⟨rfl, b6⟩
          have B6 := Lib.hid (B5.out.trans (b6.mono B5.out.size))
          clear b6 B5
          go_wp2_with fail
          refine (HNM.out w6 B6.out).mono ?_
          rintro e w7 ⟨rfl, b7⟩
          have B7 := B4.out.trans ((B6.out.trans (b7.mono B6.out.size)).mono B4.out.size)
          clear b7 B6 HNM
          go_wp2_with fail
          go_ret
          exact ⟨by first | rfl | simp, B7⟩
        · have g0 : decide (i < 0) = false := by simpa using hneg
          have g1 : decide ((ln : Int) ≤ i) = true := by simp; omega
          have g11 : (ln : Int) ≤ i := by omega
          go_wp2_with fail
          refine (alive08_any w5).mono ?_
          rintro e w6 ⟨rfl, b6⟩
          have B6 := Lib.hid (B5.out.trans (b6.mono B5.out.size))
          clear b6 B5
          go_wp2_with fail
          refine (HNM.out w6 B6.out).mono ?_
          rintro e w7 ⟨rfl, b7⟩
          have B7 := B4.out.trans ((B6.out.trans (b7.mono B6.out.size)).mono B4.out.size)
          clear b7 B6 HNM
          go_wp2_with fail
          go_ret
          exact ⟨by first | rfl | simp, B7⟩
    · have hb2 : (cd != 0) = true := by simpa using hc0
      go_enter Tryd.func5, Tryd.ntmps5
      go_wp2_with fail
      refine HF.out.mono ?_
      rintro e w1 ⟨rfl, b1⟩
      have B1 := Lib.hid b1
      clear HF b1
      go_wp2_with fail
      refine (HCK.out w1 B1.out).mono ?_
      rintro e w2 ⟨rfl, b2⟩
      have B2 := B1.out.trans (b2.mono B1.out.size)
      clear B1 b2 HCK
      go_wp2_with fail
      refine (alive08_any w2).mono ?_
      rintro e wz ⟨rfl, bz⟩
      have BZ := B2.trans (bz.mono B2.size)
      go_wp2_with fail
      go_ret
      exact ⟨by first | rfl | simp, BZ⟩
  · have hfw2 : fewH ss = false := by simpa using hfw
    rw [hfw2] at HF
    go_enter Tryd.func5, Tryd.ntmps5
    go_wp2_with fail
    refine HF.out.mono ?_
    rintro e w1 ⟨rfl, b1⟩
    have B1 := Lib.hid b1
    clear HF b1
    go_wp2_with fail
    refine (alive08_any w1).mono ?_
    rintro e wz ⟨rfl, bz⟩
    have BZ := B1.out.trans (bz.mono B1.out.size)
    go_wp2_with fail
    go_ret
    exact ⟨by first | rfl | simp, BZ⟩
end Go.Proofs.YtdnaildhcnekfaaDoor
