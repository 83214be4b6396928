/- Layer 11: the reference's Check. -/
import Derived.Test.YtolmdhhbhohndaaCnfA
namespace Go.Proofs.Ytolmdhhbhohndaa
open Go.RowKit
set_option linter.unusedVariables false
theorem six_at (l : List Int) (x : Int) (k : Nat) (h : k < l.length) : (l ++ [x])[k]?.getD 0 = l[k]?.getD 0 := by rw [List.getElem?_append_left h]
set_option maxHeartbeats 4000000 in
theorem refCheckC_any (v : Value) (ss : List Int) (hm : ss.length ≤ maxLen) (sh ra mo wk ba mi st bu ch wi ca : Int) (w : World) (hv : IntsW .i64 w.heap.size w v ss) :
    Calls Try.prog 8 #[.agg #[v, .int .i64 sh, .int .i64 ra, .int .i64 mo, .int .i64 wk, .int .i64 ba, .int .i64 mi, .int .i64 st, .int .i64 bu, .int .i64 ch, .int .i64 wi, .int .i64 ca]] w fun e w' => e = .returned (.int .i64 (codeC ss sh wk ba mi st bu ch wi ca)) ∧ Below w.heap.size w w' := by
  have AL := (Below.refl w.heap.size w).alloc (Nat.le_refl _) (.cells #[v, .int .i64 sh, .int .i64 ra, .int .i64 mo, .int .i64 wk, .int .i64 ba, .int .i64 mi, .int .i64 st, .int .i64 bu, .int .i64 ch, .int .i64 wi, .int .i64 ca] 24)
  have HN := Lib.hid (refCheckS_any v ss hm _ (hv.later AL))
  have C0 := Lib.hid (CellsAt.new w #[v, .int .i64 sh, .int .i64 ra, .int .i64 mo, .int .i64 wk, .int .i64 ba, .int .i64 mi, .int .i64 st, .int .i64 bu, .int .i64 ch, .int .i64 wi, .int .i64 ca] 24)
  obtain ⟨a, c, rfl⟩ := hv.value
  have A0 := Lib.hid AL
  have HBW := Lib.hid (fun x lo hi W => between_any x lo hi W)
  have hbw1 : betB wk 1 64 = (decide (1 ≤ wk) && decide (wk ≤ 64)) := rfl
  have hbw2 : betB sh 1 62 = (decide (1 ≤ sh) && decide (sh ≤ 62)) := rfl
  clear hv AL
  cases hb1 : betB wk 1 64
  · have H := Lib.hid (show codeC ss sh wk ba mi st bu ch wi ca = 6 from if_pos (by
      rw [hb1] at hbw1
      have := hbw1.symm
      rw [Bool.and_eq_false_iff, decide_eq_false_iff_not, decide_eq_false_iff_not] at this
      omega))
    have HB1 := Lib.hid hb1
    clear hbw1 hbw2 hb1
    go_enter Try.func8, Try.ntmps8
    go_wp2_with fail
    refine (HBW.out wk 1 64 _).mono ?_
    rintro e w1 ⟨rfl, rfl⟩
    rw [HB1.out]
    go_wp2_with fail
    go_ret
    exact ⟨by rw [H.out]; rfl, A0.out⟩
  · have E1 := Lib.hid (show codeC ss sh wk ba mi st bu ch wi ca = codeC2 ss sh wk ba mi st bu ch wi ca from if_neg (by
      rw [hb1] at hbw1
      have := hbw1.symm
      rw [Bool.and_eq_true, decide_eq_true_eq, decide_eq_true_eq] at this
      omega))
    have HB1 := Lib.hid hb1
    clear hbw1 hb1
    cases hb2 : betB sh 1 62
    · have H := Lib.hid (show codeC ss sh wk ba mi st bu ch wi ca = 9 from E1.out.trans (if_pos (by
        rw [hb2] at hbw2
        have := hbw2.symm
        rw [Bool.and_eq_false_iff, decide_eq_false_iff_not, decide_eq_false_iff_not] at this
        omega)))
      have HB2 := Lib.hid hb2
      clear hbw2 hb2
      go_enter Try.func8, Try.ntmps8
      go_wp2_with fail
      refine (HBW.out wk 1 64 _).mono ?_
      rintro e w1 ⟨rfl, rfl⟩
      rw [HB1.out]
      go_wp2_with fail
      refine (HBW.out sh 1 62 _).mono ?_
      rintro e w1 ⟨rfl, rfl⟩
      rw [HB2.out]
      go_wp2_with fail
      go_ret
      exact ⟨by rw [H.out]; rfl, A0.out⟩
    · have E2 := Lib.hid (show codeC ss sh wk ba mi st bu ch wi ca = codeC3 ss wk ba mi st bu ch wi ca from E1.out.trans (if_neg (by
        rw [hb2] at hbw2
        have := hbw2.symm
        rw [Bool.and_eq_true, decide_eq_true_eq, decide_eq_true_eq] at this
        omega)))
      have HB2 := Lib.hid hb2
      clear hbw2 hb2 E1
      go_enter Try.func8, Try.ntmps8
      go_wp2_with fail
      refine (HBW.out wk 1 64 _).mono ?_
      rintro e w1 ⟨rfl, rfl⟩
      rw [HB1.out]
      go_wp2_with fail
      refine (HBW.out sh 1 62 _).mono ?_
      rintro e w1 ⟨rfl, rfl⟩
      rw [HB2.out]
      go_wp2_with fail
      refine HN.out.mono ?_
      rintro e w1 ⟨rfl, b1⟩
      have B1 := Lib.hid (below_step A0.out b1)
      have C1 := Lib.hid (C0.out.later b1)
      clear b1 HN C0 A0
      by_cases hz : codeH ss = 0
      · have EZ := Lib.hid (show codeC ss sh wk ba mi st bu ch wi ca = codeC4 wk ba mi st bu ch wi ca from E2.out.trans (if_neg (fun h => h hz)))
        have g0 : (codeH ss != 0) = false := by simpa using hz
        clear hz E2
        generalize codeH ss = cd at *
        have c4 := C1.out.2 4 _ rfl
        have c5 := C1.out.2 5 _ rfl
        have c6 := C1.out.2 6 _ rfl
        have c7 := C1.out.2 7 _ rfl
        have c8 := C1.out.2 8 _ rfl
        have c9 := C1.out.2 9 _ rfl
        have c10 := C1.out.2 10 _ rfl
        have c11 := C1.out.2 11 _ rfl
        have hwb : w.heap.size < w1.heap.size := C1.out.1
        generalize hx : IntKind.i64.wrap (st + 1) = x
        have HX := Lib.hid hx
        have al5 := (Below.refl w1.heap.size w1).alloc (Nat.le_refl _) (.cells #[.int .i64 mi, .int .i64 bu, .int .i64 ch, .int .i64 wi, .int .i64 ca, .int .i64 x] 3)
        have I5 := Lib.hid (IntsAt.fresh (q := .i64) (w := w1) (e := 3) (zs := [mi, bu, ch, wi, ca, x]) (cs := #[.int .i64 mi, .int .i64 bu, .int .i64 ch, .int .i64 wi, .int .i64 ca, .int .i64 x]) rfl)
        have B5 := Lib.hid (below_step B1.out al5)
        have C5 := Lib.hid (C1.out.later al5)
        clear al5
        go_upto_region 9 with fail
        clear c4 c5 c6 c7 c8 c9 c10 c11 hx
        generalize (w1.alloc (.cells #[.int .i64 mi, .int .i64 bu, .int .i64 ch, .int .i64 wi, .int .i64 ca, .int .i64 x] 3)) = W at *
        have c7 := C5.out.2 7 _ rfl
        have hw5 : w.heap.size < W.heap.size := C5.out.1
        by_cases l1 : st < 0
        · have d1 : decide (st < 0) = true := by simpa using l1
          have H := Lib.hid (show codeC ss sh wk ba mi st bu ch wi ca = 2 from EZ.out.trans (if_pos (.inr (within_bad (zs := [st]) (k := 0) (by simp) (by show inB 0 st = false; unfold inB; rw [show decide (0 ≤ st) = false by simp; omega]; rfl)))))
          go_wp2_with fail
          go_ret
          exact ⟨by rw [H.out]; rfl, B5.out⟩
        · have d1 : decide (st < 0) = false := by simpa using l1
          by_cases l2 : 1048576 < st
          · have d2 : decide (1048576 < st) = true := by simpa using l2
            have H := Lib.hid (show codeC ss sh wk ba mi st bu ch wi ca = 2 from EZ.out.trans (if_pos (.inr (within_bad (zs := [st]) (k := 0) (by simp) (by show inB 0 st = false; unfold inB; rw [show decide (st ≤ 1048576) = false by simp; omega, Bool.and_false])))))
            go_wp2_with fail
            go_ret
            exact ⟨by rw [H.out]; rfl, B5.out⟩
          · have d2 : decide (1048576 < st) = false := by simpa using l2
            have HS := Lib.hid (show withinB 0 [st] = true from within_ok (fun j hj => by
              have : j = 0 := by simpa using hj
              subst this
              show inB 0 st = true
              unfold inB
              rw [show decide (0 ≤ st) = true by simp; omega, show decide (st ≤ 1048576) = true by simp; omega]; rfl))
            go_upto_region 12 with fail
            clear c7
            go_loopw [5] (fun iv wr => ∃ k : Nat, k ≤ 5 ∧ iv = .int .i64 k ∧ Hid (∀ j, j < k → inB 1 ([mi, bu, ch, wi, ca][j]?.getD 0) = true) ∧ W = wr) (fun iv _ => 5 - (intOf iv).toNat)
            case atStart => exact ⟨0, Nat.zero_le _, rfl, Lib.hid (fun j hj => absurd hj (Nat.not_lt_zero j)), rfl⟩
            case round =>
              obtain ⟨k, hk, rfl, HG, rfl⟩ := hrel
              by_cases hlt : k < 5
              · rcases I5.out.form with ⟨e0, _⟩ | ⟨b', off', cap', e0, hc', hb', hcs⟩
                · cases e0
                cases e0
                have ck := hcs k (by simp; omega)
                rw [Nat.zero_add] at ck
                have hv5 : [mi, bu, ch, wi, ca, x][k]?.getD 0 = [mi, bu, ch, wi, ca][k]?.getD 0 := six_at [mi, bu, ch, wi, ca] x k (by simpa using hlt)
                rw [hv5] at ck
                have HB := Lib.hid (HBW.out ([mi, bu, ch, wi, ca][k]?.getD 0) 1 1048576 W)
                have HBB := Lib.hid (show betB ([mi, bu, ch, wi, ca][k]?.getD 0) 1 1048576 = inB 1 ([mi, bu, ch, wi, ca][k]?.getD 0) from rfl)
                have hbl : w1.heap.size < W.heap.size := hb'
                have HBAD := Lib.hid (fun h => within_bad (least := 1) (zs := [mi, bu, ch, wi, ca]) (k := k) (by simpa using hlt) h)
                have HGN : Hid (inB 1 ([mi, bu, ch, wi, ca][k]?.getD 0) = true → ∀ j, j < k + 1 → inB 1 ([mi, bu, ch, wi, ca][j]?.getD 0) = true) := Lib.hid (fun h j hj => by
                  rcases Nat.lt_succ_iff_lt_or_eq.1 hj with h1 | rfl
                  · exact HG.out j h1
                  · exact h)
                rw [HBB.out] at HB
                clear hcs hv5 HBB
                generalize [mi, bu, ch, wi, ca][k]?.getD 0 = y at *
                go_wp2_with fail
                refine HB.out.mono ?_
                rintro e w7 ⟨rfl, rfl⟩
                cases hy : inB 1 y
                · have H := Lib.hid (show codeC ss sh wk ba mi st bu ch wi ca = 2 from EZ.out.trans (if_pos (.inl (HBAD.out hy))))
                  clear hy ck
                  go_wp2_with fail
                  go_ret
                  exact ⟨by rw [H.out]; rfl, B5.out⟩
                · have HG2 := Lib.hid (HGN.out hy)
                  clear hy ck
                  go_wp2_with fail
                  go_roundw
                  case rel => exact ⟨k + 1, by omega, by go_num, HG2, trivial⟩
                  case measure => simp [intOf]; omega
              · have hke : k = 5 := by omega
                subst hke
                have H5 : withinB 1 [mi, bu, ch, wi, ca] = true := within_ok (fun j hj => HG.out j (by simpa using hj))
                have EY := Lib.hid (show codeC ss sh wk ba mi st bu ch wi ca = if withinB wk [ba] = false then 7 else 0 from EZ.out.trans (if_neg (by rw [H5, HS.out]; simp)))
                have c4 := C5.out.2 4 _ rfl
                have c5 := C5.out.2 5 _ rfl
                have HB := Lib.hid (HBW.out ba wk 1048576 W)
                have HBB := Lib.hid (show betB ba wk 1048576 = withinB wk [ba] from (by show inB wk ba = _; unfold withinB; simp))
                rw [HBB.out] at HB
                clear H5 HBB hlt hk
                go_wp2_with fail
                refine HB.out.mono ?_
                rintro e w7 ⟨rfl, rfl⟩
                cases hy : withinB wk [ba]
                · have H := Lib.hid (show codeC ss sh wk ba mi st bu ch wi ca = 7 by rw [EY.out, if_pos hy])
                  clear hy c4 c5
                  go_wp2_with fail
                  go_ret
                  exact ⟨by rw [H.out]; rfl, B5.out⟩
                · have H := Lib.hid (show codeC ss sh wk ba mi st bu ch wi ca = 0 by rw [EY.out, if_neg (by rw [hy]; simp)])
                  clear hy c4 c5
                  go_wp2_with fail
                  go_ret
                  exact ⟨by rw [H.out]; rfl, B5.out⟩
      · have g5 : (codeH ss != 0) = true := by simpa using hz
        have H := Lib.hid (show codeC ss sh wk ba mi st bu ch wi ca = codeH ss from E2.out.trans (if_pos hz))
        clear hz E2
        generalize codeH ss = cd at *
        go_wp2_with fail
        go_ret
        exact ⟨by rw [H.out]; rfl, B1.out⟩
end Go.Proofs.Ytolmdhhbhohndaa
