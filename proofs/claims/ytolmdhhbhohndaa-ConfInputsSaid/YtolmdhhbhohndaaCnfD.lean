/- Layer 11: Epochs and Need. -/
import Derived.Test.YtolmdhhbhohndaaCnfC
namespace Go.Proofs.Ytolmdhhbhohndaa
open Go.RowKit
set_option linter.unusedVariables false
def needZ (n : Int) : Int := if n < 1 then 0 else n - 1
theorem need_any (n : Int) (hn : n ≤ 9223372036854775807) (w : World) : Calls Try.prog 24 #[.int .i64 n] w fun e w' => e = .returned (.int .i64 (needZ n)) ∧ w = w' := by
  by_cases h : n < 1
  · have H := Lib.hid (show needZ n = 0 from if_pos h)
    go_enter Try.func24, Try.ntmps24
    go_wp2
    go_ret
    exact ⟨by rw [H.out]; rfl, rfl⟩
  · have H := Lib.hid (show needZ n = n - 1 from if_neg h)
    go_enter Try.func24, Try.ntmps24
    go_wp2
    go_ret
    exact ⟨by rw [H.out]; rfl, rfl⟩
theorem refNeed_any (n : Int) (hn : n ≤ 9223372036854775807) (w : World) : Calls Try.prog 25 #[.int .i64 n] w fun e w' => e = .returned (.int .i64 (needZ n)) ∧ w = w' := by
  by_cases h : n < 1
  · have H := Lib.hid (show needZ n = 0 from if_pos h)
    go_enter Try.func25, Try.ntmps25
    go_wp2
    go_ret
    exact ⟨by rw [H.out]; rfl, rfl⟩
  · have H := Lib.hid (show needZ n = n - 1 from if_neg h)
    go_enter Try.func25, Try.ntmps25
    go_wp2
    go_ret
    exact ⟨by rw [H.out]; rfl, rfl⟩
/-- the epochs of a right configuration -/
def epN (st ba n : Nat) : Nat := (st + n / ba - 1) / (n / ba)
theorem epN_lt (st ba n i : Nat) (h : 1 ≤ n / ba) : i < epN st ba n ↔ i * (n / ba) < st := by
  unfold epN
  generalize n / ba = e at *
  have h1 := Nat.le_div_iff_mul_le (x := i + 1) (y := st + e - 1) (k := e) (by omega)
  rw [Nat.succ_mul] at h1
  generalize i * e = p at *
  omega
theorem epN_le (st ba n : Nat) (h : 1 ≤ n / ba) : epN st ba n ≤ st := by
  apply Nat.le_of_not_lt
  intro hlt
  have := (epN_lt st ba n st h).1 hlt
  have h2 : st * 1 ≤ st * (n / ba) := Nat.mul_le_mul_left _ h
  omega
def epC (cd ba st n : Int) : Int := if cd ≠ 0 ∨ withinB ba [n] = false then 0 else (epN st.toNat ba.toNat n.toNat : Nat)
theorem codeC_zero {ss : List Int} {sh wk ba mi st bu ch wi ca : Int} (h : codeC ss sh wk ba mi st bu ch wi ca = 0) : RightH ss ∧ 1 ≤ wk ∧ wk ≤ ba ∧ ba ≤ 1048576 ∧ 0 ≤ st ∧ st ≤ 1048576 := by
  unfold codeC at h
  split at h
  · cases h
  · next h1 =>
    unfold codeC2 at h
    split at h
    · cases h
    · unfold codeC3 at h
      split at h
      · next h3 => exact absurd h h3
      · next h3 =>
        unfold codeC4 at h
        split at h
        · cases h
        · next h4 =>
          split at h
          · cases h
          · next h5 =>
            have e1 : withinB 0 [st] = true := by cases hb : withinB 0 [st] <;> simp_all
            have e2 : withinB wk [ba] = true := by cases hb : withinB wk [ba] <;> simp_all
            unfold withinB inB at e1 e2
            simp at e1 e2
            exact ⟨codeH_zero.1 (by simpa using h3), by omega, e2.1, e2.2, e1.1, e1.2⟩
theorem within_one {least n : Int} (h : withinB least [n] = true) : least ≤ n ∧ n ≤ 1048576 := by
  unfold withinB inB at h
  simpa using h
theorem epC_range {ss : List Int} {sh wk ba mi st bu ch wi ca n : Int} : 0 ≤ epC (codeC ss sh wk ba mi st bu ch wi ca) ba st n ∧ epC (codeC ss sh wk ba mi st bu ch wi ca) ba st n ≤ 1048576 ∧ (epC (codeC ss sh wk ba mi st bu ch wi ca) ba st n ≠ 0 → 1 ≤ n ∧ n ≤ 1048576) := by
  unfold epC
  split
  · omega
  · next h =>
    have hz : codeC ss sh wk ba mi st bu ch wi ca = 0 := by
      apply Classical.byContradiction; intro hh; exact h (.inl hh)
    have hw : withinB ba [n] = true := by cases hb : withinB ba [n] <;> simp_all
    have hw := within_one hw
    obtain ⟨_, h1, h2, h3, h4, h5⟩ := codeC_zero hz
    have hd : 1 ≤ n.toNat / ba.toNat := (Nat.le_div_iff_mul_le (by omega)).2 (by omega)
    have := epN_le st.toNat ba.toNat n.toNat hd
    omega
set_option maxHeartbeats 2000000 in
theorem epochs_any (v : Value) (ss : List Int) (hm : ss.length ≤ maxLen) (sh ra mo wk ba mi st bu ch wi ca n : Int) (hn : -9223372036854775808 ≤ n ∧ n ≤ 9223372036854775807) (w : World) (hv : IntsW .i64 w.heap.size w v ss) :
    Calls Try.prog 12 #[.agg #[v, .int .i64 sh, .int .i64 ra, .int .i64 mo, .int .i64 wk, .int .i64 ba, .int .i64 mi, .int .i64 st, .int .i64 bu, .int .i64 ch, .int .i64 wi, .int .i64 ca], .int .i64 n] w fun e w' => e = .returned (.int .i64 (epC (codeC ss sh wk ba mi st bu ch wi ca) ba st n)) ∧ Below w.heap.size w w' := by
  have AL := (Below.refl w.heap.size w).alloc (Nat.le_refl _) (.cells #[v, .int .i64 sh, .int .i64 ra, .int .i64 mo, .int .i64 wk, .int .i64 ba, .int .i64 mi, .int .i64 st, .int .i64 bu, .int .i64 ch, .int .i64 wi, .int .i64 ca] 24)
  have HK := Lib.hid (checkC_any v ss hm sh ra mo wk ba mi st bu ch wi ca _ (hv.later AL))
  have C0 := Lib.hid (CellsAt.new w #[v, .int .i64 sh, .int .i64 ra, .int .i64 mo, .int .i64 wk, .int .i64 ba, .int .i64 mi, .int .i64 st, .int .i64 bu, .int .i64 ch, .int .i64 wi, .int .i64 ca] 24)
  obtain ⟨a, c, rfl⟩ := hv.value
  have A0 := Lib.hid AL
  clear hv AL
  have HZ := Lib.hid (fun h => codeC_zero (ss := ss) (sh := sh) (wk := wk) (ba := ba) (mi := mi) (st := st) (bu := bu) (ch := ch) (wi := wi) (ca := ca) h)
  generalize codeC ss sh wk ba mi st bu ch wi ca = cd at *
  by_cases hz : cd = 0
  · subst hz
    obtain ⟨hR, h1, h2, h3, h4, h5⟩ := HZ.out rfl
    obtain ⟨ba, rfl⟩ := Int.eq_ofNat_of_zero_le (show 0 ≤ ba by omega)
    obtain ⟨st, rfl⟩ := Int.eq_ofNat_of_zero_le h4
    clear HZ hR
    go_enter Try.func12, Try.ntmps12
    go_wp2_with fail
    refine HK.out.mono ?_
    rintro e w1 ⟨rfl, b1⟩
    have B1 := Lib.hid (below_step A0.out b1)
    have C1 := Lib.hid (C0.out.later b1)
    have c5 := C1.out.2 5 _ rfl
    have hwb : w.heap.size < w1.heap.size := C1.out.1
    have al := (Below.refl w1.heap.size w1).alloc (Nat.le_refl _) (.cells #[.int .i64 n] 3)
    have I2 := Lib.hid (IntsAt.fresh (q := .i64) (w := w1) (e := 3) (zs := [n]) (cs := #[.int .i64 n]) rfl)
    have B2 := Lib.hid (below_step B1.out al)
    have C2 := Lib.hid (C1.out.later al)
    have W2 := Lib.hid (within_any (ba : Int) _ [n] (by simp) _ _ I2.out)
    clear b1 C1 B1 al HK C0 A0
    go_wp2_with fail
    refine W2.out.mono ?_
    rintro e w2 ⟨rfl, rfl⟩
    clear c5
    generalize hW : w1.alloc (.cells #[.int .i64 n] 3) = W at *
    clear hW
    cases hb : withinB (ba : Int) [n]
    · have H := Lib.hid (show epC 0 ba st n = 0 from if_pos (.inr hb))
      clear hb
      go_wp2_with fail
      go_ret
      exact ⟨by rw [H.out]; rfl, B2.out⟩
    · have hw := within_one hb
      obtain ⟨n, rfl⟩ := Int.eq_ofNat_of_zero_le (show 0 ≤ n by omega)
      have H := Lib.hid (show epC 0 ba st n = (epN st ba n : Nat) from if_neg (by rw [hb]; simp))
      have hd : 1 ≤ n / ba := (Nat.le_div_iff_mul_le (by omega)).2 (by omega)
      have hd1 : n / ba ≤ n := Nat.div_le_self _ _
      have HE := Lib.hid (show epN st ba n = (st + n / ba - 1) / (n / ba) from rfl)
      have td : Int.tdiv (n : Int) (ba : Int) = ((n / ba : Nat) : Int) := by rw [Int.tdiv_eq_ediv_of_nonneg (by omega)]; exact (Int.natCast_ediv _ _).symm
      have c5 := C2.out.2 5 _ rfl
      have c7 := C2.out.2 7 _ rfl
      have hwb2 : w.heap.size < W.heap.size := C2.out.1
      generalize n / ba = each at *
      have hsub : ((st : Int) + each - 1) = ((st + each - 1 : Nat) : Int) := by omega
      have w1' : IntKind.i64.wrap ((st : Int) + each) = (st : Int) + each := IntWalk.i64_in _ (by omega)
      have w2' : IntKind.i64.wrap ((st : Int) + each - 1) = ((st + each - 1 : Nat) : Int) := by rw [hsub]; exact IntWalk.i64_in _ (by omega)
      have td2 : Int.tdiv ((st + each - 1 : Nat) : Int) (each : Int) = ((epN st ba n : Nat) : Int) := by rw [HE.out, Int.tdiv_eq_ediv_of_nonneg (by omega)]; exact (Int.natCast_ediv _ _).symm
      have hle : epN st ba n ≤ 2097152 := by rw [HE.out]; exact Nat.le_trans (Nat.div_le_self _ _) (by omega)
      clear hb hsub
      generalize st + each - 1 = q at *
      generalize epN st ba n = ep at *
      go_wp2_with fail
      go_ret
      exact ⟨by rw [H.out]; rfl, B2.out⟩
  · have g0 : (cd != 0) = true := by simpa using hz
    have H := Lib.hid (show epC cd ba st n = 0 from if_pos (.inl hz))
    clear HZ
    go_enter Try.func12, Try.ntmps12
    go_wp2_with fail
    refine HK.out.mono ?_
    rintro e w1 ⟨rfl, b1⟩
    have B1 := Lib.hid (below_step A0.out b1)
    have C1 := Lib.hid (C0.out.later b1)
    clear b1 HK C0 A0
    go_wp2_with fail
    go_ret
    exact ⟨by rw [H.out]; rfl, B1.out⟩
set_option maxHeartbeats 2000000 in
theorem refEpochs_any (v : Value) (ss : List Int) (hm : ss.length ≤ maxLen) (sh ra mo wk ba mi st bu ch wi ca n : Int) (hn : -9223372036854775808 ≤ n ∧ n ≤ 9223372036854775807) (w : World) (hv : IntsW .i64 w.heap.size w v ss) :
    Calls Try.prog 13 #[.agg #[v, .int .i64 sh, .int .i64 ra, .int .i64 mo, .int .i64 wk, .int .i64 ba, .int .i64 mi, .int .i64 st, .int .i64 bu, .int .i64 ch, .int .i64 wi, .int .i64 ca], .int .i64 n] w fun e w' => e = .returned (.int .i64 (epC (codeC ss sh wk ba mi st bu ch wi ca) ba st n)) ∧ Below w.heap.size w w' := by
  have AL := (Below.refl w.heap.size w).alloc (Nat.le_refl _) (.cells #[v, .int .i64 sh, .int .i64 ra, .int .i64 mo, .int .i64 wk, .int .i64 ba, .int .i64 mi, .int .i64 st, .int .i64 bu, .int .i64 ch, .int .i64 wi, .int .i64 ca] 24)
  have HK := Lib.hid (refCheckC_any v ss hm sh ra mo wk ba mi st bu ch wi ca _ (hv.later AL))
  have C0 := Lib.hid (CellsAt.new w #[v, .int .i64 sh, .int .i64 ra, .int .i64 mo, .int .i64 wk, .int .i64 ba, .int .i64 mi, .int .i64 st, .int .i64 bu, .int .i64 ch, .int .i64 wi, .int .i64 ca] 24)
  obtain ⟨a, c, rfl⟩ := hv.value
  have A0 := Lib.hid AL
  clear hv AL
  have HZ := Lib.hid (fun h => codeC_zero (ss := ss) (sh := sh) (wk := wk) (ba := ba) (mi := mi) (st := st) (bu := bu) (ch := ch) (wi := wi) (ca := ca) h)
  generalize codeC ss sh wk ba mi st bu ch wi ca = cd at *
  by_cases hz : cd = 0
  · subst hz
    obtain ⟨hR, h1, h2, h3, h4, h5⟩ := HZ.out rfl
    obtain ⟨ba, rfl⟩ := Int.eq_ofNat_of_zero_le (show 0 ≤ ba by omega)
    obtain ⟨st, rfl⟩ := Int.eq_ofNat_of_zero_le h4
    clear HZ hR
    have HBB := Lib.hid (show betB n ba 1048576 = withinB (ba : Int) [n] from (by show inB ba n = _; unfold withinB; simp))
    have HB := Lib.hid (fun W => between_any n ba 1048576 W)
    rw [HBB.out] at HB
    go_enter Try.func13, Try.ntmps13
    go_wp2_with fail
    refine HK.out.mono ?_
    rintro e w1 ⟨rfl, b1⟩
    have B1 := Lib.hid (below_step A0.out b1)
    have C1 := Lib.hid (C0.out.later b1)
    have c5 := C1.out.2 5 _ rfl
    have hwb : w.heap.size < w1.heap.size := C1.out.1
    clear b1 HK C0 A0
    go_wp2_with fail
    refine (HB.out _).mono ?_
    rintro e w2 ⟨rfl, rfl⟩
    clear c5
    cases hb : withinB (ba : Int) [n]
    · have H := Lib.hid (show epC 0 ba st n = 0 from if_pos (.inr hb))
      clear hb
      go_wp2_with fail
      go_ret
      exact ⟨by rw [H.out]; rfl, B1.out⟩
    · have hw := within_one hb
      obtain ⟨n, rfl⟩ := Int.eq_ofNat_of_zero_le (show 0 ≤ n by omega)
      have H := Lib.hid (show epC 0 ba st n = (epN st ba n : Nat) from if_neg (by rw [hb]; simp))
      have hd : 1 ≤ n / ba := (Nat.le_div_iff_mul_le (by omega)).2 (by omega)
      have hd1 : n / ba ≤ n := Nat.div_le_self _ _
      have HLT := Lib.hid (fun i => epN_lt st ba n i hd)
      have hle := epN_le st ba n hd
      have td : Int.tdiv (n : Int) (ba : Int) = ((n / ba : Nat) : Int) := by rw [Int.tdiv_eq_ediv_of_nonneg (by omega)]; exact (Int.natCast_ediv _ _).symm
      have c5 := C1.out.2 5 _ rfl
      have c7 := C1.out.2 7 _ rfl
      generalize n / ba = each at *
      clear hb
      generalize epN st ba n = E at *
      go_wp2_with fail
      go_loopw [5, 6] (fun ev tv wr => ∃ k tt : Nat, k ≤ E ∧ tt = k * each ∧ ev = .int .i64 k ∧ tv = .int .i64 tt ∧ w1 = wr) (fun ev _ _ => E - (intOf ev).toNat)
      case atStart => exact ⟨0, 0, Nat.zero_le _, by rw [Nat.zero_mul], rfl, rfl, rfl⟩
      case round =>
        obtain ⟨k, tt, hk, ht, rfl, rfl, rfl⟩ := hrel
        have hl := HLT.out k
        rw [← ht] at hl
        have HT := Lib.hid ht
        clear ht
        by_cases hlt : tt < st
        · have hke := hl.2 hlt
          clear hl
          go_wp2_with fail
          go_roundw
          case rel => exact ⟨k + 1, tt + each, by omega, by rw [HT.out, Nat.succ_mul], by go_num, by go_num, trivial⟩
          case measure => simp [intOf]; omega
        · have hkE : k = E := by
            have : ¬ (k < E) := fun h => hlt (hl.1 h)
            omega
          subst hkE
          clear hl
          go_wp2_with fail
          go_ret
          exact ⟨by rw [H.out]; rfl, B1.out⟩
  · have g0 : (cd != 0) = true := by simpa using hz
    have H := Lib.hid (show epC cd ba st n = 0 from if_pos (.inl hz))
    clear HZ
    go_enter Try.func13, Try.ntmps13
    go_wp2_with fail
    refine HK.out.mono ?_
    rintro e w1 ⟨rfl, b1⟩
    have B1 := Lib.hid (below_step A0.out b1)
    have C1 := Lib.hid (C0.out.later b1)
    clear b1 HK C0 A0
    go_wp2_with fail
    go_ret
    exact ⟨by rw [H.out]; rfl, B1.out⟩
theorem needC_any (v : Value) (ss : List Int) (hm : ss.length ≤ maxLen) (sh ra mo wk ba mi st bu ch wi ca n : Int) (hn : -9223372036854775808 ≤ n ∧ n ≤ 9223372036854775807) (w : World) (hv : IntsW .i64 w.heap.size w v ss) :
    Calls Try.prog 14 #[.agg #[v, .int .i64 sh, .int .i64 ra, .int .i64 mo, .int .i64 wk, .int .i64 ba, .int .i64 mi, .int .i64 st, .int .i64 bu, .int .i64 ch, .int .i64 wi, .int .i64 ca], .int .i64 n] w fun e w' => e = .returned (.int .i64 (epC (codeC ss sh wk ba mi st bu ch wi ca) ba st n * needZ n)) ∧ Below w.heap.size w w' := by
  have AL := (Below.refl w.heap.size w).alloc (Nat.le_refl _) (.cells #[v, .int .i64 sh, .int .i64 ra, .int .i64 mo, .int .i64 wk, .int .i64 ba, .int .i64 mi, .int .i64 st, .int .i64 bu, .int .i64 ch, .int .i64 wi, .int .i64 ca] 24)
  have HK := Lib.hid (epochs_any v ss hm sh ra mo wk ba mi st bu ch wi ca n hn _ (hv.later AL))
  obtain ⟨a, c, rfl⟩ := hv.value
  have A0 := Lib.hid AL
  have er := epC_range (ss := ss) (sh := sh) (wk := wk) (ba := ba) (mi := mi) (st := st) (bu := bu) (ch := ch) (wi := wi) (ca := ca) (n := n)
  have hmul : IntKind.i64.wrap (epC (codeC ss sh wk ba mi st bu ch wi ca) ba st n * needZ n) = epC (codeC ss sh wk ba mi st bu ch wi ca) ba st n * needZ n := by
    by_cases h0 : epC (codeC ss sh wk ba mi st bu ch wi ca) ba st n = 0
    · rw [h0, Int.zero_mul]; rfl
    · have h1 := er.2.2 h0
      have h2 : 0 ≤ needZ n ∧ needZ n ≤ 1048576 := by unfold needZ; split <;> omega
      have m0 := Int.mul_nonneg er.1 h2.1
      have m1 := Int.mul_le_mul er.2.1 h2.2 h2.1 (by omega)
      exact IntWalk.i64_in _ (by omega)
  clear hv AL er
  have HN := Lib.hid (fun W => need_any n hn.2 W)
  generalize epC (codeC ss sh wk ba mi st bu ch wi ca) ba st n = ep at *
  generalize needZ n = nz at *
  go_enter Try.func14, Try.ntmps14
  go_wp2_with fail
  refine HK.out.mono ?_
  rintro e w1 ⟨rfl, b1⟩
  have B1 := Lib.hid (below_step A0.out b1)
  clear b1
  go_wp2_with fail
  refine (HN.out _).mono ?_
  rintro e w2 ⟨rfl, rfl⟩
  go_wp2_with fail
  go_ret
  exact ⟨rfl, B1.out⟩
theorem refNeedC_any (v : Value) (ss : List Int) (hm : ss.length ≤ maxLen) (sh ra mo wk ba mi st bu ch wi ca n : Int) (hn : -9223372036854775808 ≤ n ∧ n ≤ 9223372036854775807) (w : World) (hv : IntsW .i64 w.heap.size w v ss) :
    Calls Try.prog 15 #[.agg #[v, .int .i64 sh, .int .i64 ra, .int .i64 mo, .int .i64 wk, .int .i64 ba, .int .i64 mi, .int .i64 st, .int .i64 bu, .int .i64 ch, .int .i64 wi, .int .i64 ca], .int .i64 n] w fun e w' => e = .returned (.int .i64 (epC (codeC ss sh wk ba mi st bu ch wi ca) ba st n * needZ n)) ∧ Below w.heap.size w w' := by
  have AL := (Below.refl w.heap.size w).alloc (Nat.le_refl _) (.cells #[v, .int .i64 sh, .int .i64 ra, .int .i64 mo, .int .i64 wk, .int .i64 ba, .int .i64 mi, .int .i64 st, .int .i64 bu, .int .i64 ch, .int .i64 wi, .int .i64 ca] 24)
  have HK := Lib.hid (refEpochs_any v ss hm sh ra mo wk ba mi st bu ch wi ca n hn _ (hv.later AL))
  obtain ⟨a, c, rfl⟩ := hv.value
  have A0 := Lib.hid AL
  have er := epC_range (ss := ss) (sh := sh) (wk := wk) (ba := ba) (mi := mi) (st := st) (bu := bu) (ch := ch) (wi := wi) (ca := ca) (n := n)
  have hmul : IntKind.i64.wrap (epC (codeC ss sh wk ba mi st bu ch wi ca) ba st n * needZ n) = epC (codeC ss sh wk ba mi st bu ch wi ca) ba st n * needZ n := by
    by_cases h0 : epC (codeC ss sh wk ba mi st bu ch wi ca) ba st n = 0
    · rw [h0, Int.zero_mul]; rfl
    · have h1 := er.2.2 h0
      have h2 : 0 ≤ needZ n ∧ needZ n ≤ 1048576 := by unfold needZ; split <;> omega
      have m0 := Int.mul_nonneg er.1 h2.1
      have m1 := Int.mul_le_mul er.2.1 h2.2 h2.1 (by omega)
      exact IntWalk.i64_in _ (by omega)
  clear hv AL er
  have HN := Lib.hid (fun W => refNeed_any n hn.2 W)
  generalize epC (codeC ss sh wk ba mi st bu ch wi ca) ba st n = ep at *
  generalize needZ n = nz at *
  go_enter Try.func15, Try.ntmps15
  go_wp2_with fail
  refine HK.out.mono ?_
  rintro e w1 ⟨rfl, b1⟩
  have B1 := Lib.hid (below_step A0.out b1)
  clear b1
  go_wp2_with fail
  refine (HN.out _).mono ?_
  rintro e w2 ⟨rfl, rfl⟩
  go_wp2_with fail
  go_ret
  exact ⟨rfl, B1.out⟩
end Go.Proofs.Ytolmdhhbhohndaa
