/- Layer 23: the walks. -/
import Derived.Test.YtancgbggppaceaaBndH
namespace Go.Proofs.Ytancgbggppaceaa
open Go.RowKit Go.Maps
set_option linter.unusedVariables false
def WinTo (N : Nat) (ps : List Int) (k : Nat) : Prop := ∀ i, i < k → onceB N ((ps.drop i).take N) = true
theorem win_yes {N : Nat} {ps : List Int} {k : Nat} (h : WinTo N ps k) (hk : ps.length + 1 - N ≤ k) : windows N ps = true := List.all_eq_true.2 fun i hi => h i (by have := List.mem_range.1 hi; omega)
theorem win_no {N : Nat} {ps : List Int} {k : Nat} (hk : k + N ≤ ps.length) (h : onceB N ((ps.drop k).take N) = false) : windows N ps = false := by
  rw [Bool.eq_false_iff]
  intro ht
  have := List.all_eq_true.1 ht k (List.mem_range.2 (by omega))
  rw [h] at this
  cases this
theorem WinTo.succ {N : Nat} {ps : List Int} {k : Nat} (h : WinTo N ps k) (hk : onceB N ((ps.drop k).take N) = true) : WinTo N ps (k + 1) := fun i hi => by
  rcases Nat.lt_succ_iff_lt_or_eq.1 hi with h1 | rfl
  · exact h i h1
  · exact hk
theorem fair_windows (N : Nat) (ps : List Int) (h0 : 1 ≤ N) (h1 : N ≤ 64) : fairB (N : Int) ps = windows N ps := by
  rw [fair_some ps (by omega) (by omega)]
  by_cases hl : N ≤ ps.length
  · have g : decide ((ps.length : Int) < (N : Int)) = false := by simp; omega
    rw [g, Bool.false_or]
    exact fits_windows N ps h0 hl
  · have g : decide ((ps.length : Int) < (N : Int)) = true := by simp; omega
    rw [g, Bool.true_or]
    unfold windows
    rw [show ps.length + 1 - N = 0 by omega]
    rfl
set_option maxHeartbeats 2000000 in
theorem refFair_any (N : Int) (v : Value) (ps : List Int) (hm : ps.length ≤ 1048576) (w : World) (hv : IntsAt .i64 w.heap.size w v ps) :
    Calls Try.prog 7 #[.int .i64 N, v] w fun e w' => e = .returned (.bool (fairB N ps)) ∧ w = w' := by
  obtain ⟨a, c, rfl⟩ := ints_value hv
  by_cases hN : 1 ≤ N ∧ N ≤ 64
  · obtain ⟨h0, h1⟩ := hN
    obtain ⟨n, rfl⟩ := Int.eq_ofNat_of_zero_le (show 0 ≤ N by omega)
    have HF := Lib.hid (fair_windows n ps (by omega) (by omega))
    have HV := Lib.hid hv
    have hcap : ps.length ≤ c := by
      rcases hv.form with ⟨e0, h⟩ | ⟨b, off, cap, e0, hc, _⟩
      · rw [h]; simp
      · cases e0; exact hc
    clear hv
    go_enter Try.func7, Try.ntmps7
    go_wp2_with fail
    go_loop [5] (fun i => ∃ k : Nat, k ≤ ps.length + 1 ∧ i = .int .i64 k ∧ Hid (WinTo n ps k)) (fun i => ps.length + 2 - (intOf i).toNat)
    case atStart => exact ⟨0, Nat.zero_le _, rfl, Lib.hid (fun i hi => absurd hi (Nat.not_lt_zero i))⟩
    case round =>
      obtain ⟨k, hk, rfl, HO⟩ := hrel
      by_cases hlt : k + n ≤ ps.length
      · have g1 : ((k : Int) + (n : Int)) ≤ (ps.length : Int) := by omega
        have hcut := fun W => run_cut_lh (P := Try.prog) (T := 22) (s := 1) Try.underlying22 (by intro W; kernel_rfl) a ps.length c .i64 .i64 (k : Int) ((k : Int) + (n : Int)) (by omega) (by omega) (by omega) W
        have HC := Lib.hid (IntsAt.cut (l := k) (h := k + n) (by omega) hlt HV.out)
        rw [List.drop_take, Nat.add_sub_cancel_left] at HC
        rw [Int.toNat_natCast, show ((k : Int) + (n : Int)).toNat = k + n by omega] at hcut
        have HYES := Lib.hid (fun h => HO.out.succ (N := n) h)
        have HNO := Lib.hid (fun h => win_no (N := n) hlt h)
        have hln : ((ps.drop k).take n).length ≤ 1048576 := by rw [List.length_take]; omega
        generalize (ps.drop k).take n = l at *
        generalize cutv a k (k + n) c 1 = V at *
        have HCT := Lib.hid (once_any n (by omega) V l hln _ w HC.out)
        cases ho : onceB n l
        · have HY := Lib.hid (HNO.out ho)
          rw [ho] at HCT
          clear ho
          go_wp2_with fail
          refine HCT.out.mono ?_
          rintro e w' ⟨rfl, rfl⟩
          go_wp2_with fail
          go_ret
          exact ⟨by rw [HF.out, HY.out]; rfl, rfl⟩
        · have HY := Lib.hid (HYES.out ho)
          rw [ho] at HCT
          clear ho
          go_wp2_with fail
          refine HCT.out.mono ?_
          rintro e w' ⟨rfl, rfl⟩
          go_wp2_with fail
          go_round
          case rel => exact ⟨k + 1, by omega, by go_num, HY⟩
          case measure => simp [intOf]; omega
      · have HY := Lib.hid (win_yes HO.out (by omega))
        have g1 : ¬ ((k : Int) + (n : Int)) ≤ (ps.length : Int) := by omega
        go_wp2_with fail
        go_ret
        exact ⟨by rw [HF.out, HY.out]; rfl, rfl⟩
  · have hs : someB N = false := by
      unfold someB
      rw [Bool.eq_false_iff]
      intro h
      rw [Bool.and_eq_true, decide_eq_true_eq, decide_eq_true_eq] at h
      exact hN h
    have H := Lib.hid (fair_small N ps hs)
    have hN' : N < 1 ∨ ¬ N < 1 ∧ 64 < N := by omega
    clear hN hs hv
    rcases hN' with h | h
    all_goals
      go_enter Try.func7, Try.ntmps7
      go_wp2_with fail
      go_ret
      exact ⟨by rw [H.out]; rfl, rfl⟩
theorem elemIn : Elem Try.prog 22 3 (.int .i64 0) 1 8 := ⟨Try.underlying22, info_parts (by kernel_rfl), rfl, by decide⟩
def turnsR (N n : Int) : List Int := if someB N = true ∧ 0 ≤ n then turnsL N n.toNat else []
theorem turns_none {N n : Int} (h : ¬ (someB N = true ∧ 0 ≤ n)) : turnsR N n = [] := by unfold turnsR; rw [if_neg h]
theorem turns_some {N n : Int} (h : someB N = true ∧ 0 ≤ n) : turnsR N n = turnsL N n.toNat := by unfold turnsR; rw [if_pos h]
def NewIntsR (zs : List Int) (w : World) (e : Ending) (w' : World) : Prop := ∃ v, e = .returned v ∧ w'.ownsRow w.heap.size 3 1 v zs.length (zs.map (Value.int .i64)) ∧ Below w.heap.size w w'
set_option maxHeartbeats 2000000 in
theorem refTurns_any (N n : Int) (hn : n ≤ 2000) (hn0 : -9223372036854775808 ≤ n) (w : World) :
    Calls Try.prog 10 #[.int .i64 N, .int .i64 n] w (NewIntsR (turnsR N n) w) := by
  by_cases hN : 1 ≤ N ∧ N ≤ 64
  · obtain ⟨h0, h1⟩ := hN
    have hs : someB N = true := by unfold someB; simp [h0, h1]
    go_enter Try.func10, Try.ntmps10
    go_wp2_with fail
    go_loopw [5, 6] (fun o i wr => ∃ k : Nat, ((k : Int) ≤ n ∨ k = 0) ∧ i = .int .i64 k ∧ Hid (wr.ownsRow w.heap.size 3 1 o k ((turnsL N k).map (Value.int .i64))) ∧ Hid (Below w.heap.size w wr)) (fun _ i _ => (n - intOf i).toNat)
    case atStart => exact ⟨0, .inr rfl, rfl, Lib.hid (World.ownsRow_nil _ _ _ _), Lib.hid (Below.refl _ _)⟩
    case round =>
      obtain ⟨k, hk, rfl, HO, HB⟩ := hrel
      by_cases hlt : (k : Int) < n
      · have r0 := Int.emod_nonneg (k : Int) (show N ≠ 0 by omega)
        have r1 := Int.emod_lt_of_pos (k : Int) (show 0 < N by omega)
        have HS := Lib.hid (turnsL_succ N k)
        have hN0 : (N == 0) = false := by simp; omega
        go_wp2_with (at_builtin; refine append_one elemIn rfl _ _ rfl rfl rfl HO.out rfl ?_ ?_ ?_ ?_ ?_; (simp [Value.oneCell']); (unfold maxLen; omega); omega; (exact HB.out.size); intro v' w' ho' hg'; have HO' := Lib.hid ho'; have HB' := Lib.hid (below_appended HB.out HO.out hg' (Nat.le_refl _) HB.out.size); clear ho' hg')
        go_roundw
        case rel => exact ⟨k + 1, by omega, by go_num, Lib.hid (by rw [HS.out, List.map_append]; exact HO'.out), HB'⟩
        case measure => simp [intOf]; omega
      · have HT := Lib.hid (show turnsR N n = turnsL N k from by
          by_cases hn2 : 0 ≤ n
          · rw [turns_some ⟨hs, hn2⟩]
            congr 1; omega
          · rw [turns_none (by intro h; exact hn2 h.2)]
            have : k = 0 := by omega
            subst this; rfl)
        go_wp2_with fail
        go_ret
        refine ⟨_, rfl, ?_, HB.out⟩
        rw [HT.out, turnsL_length]
        exact HO.out
  · have H := Lib.hid (turns_none (N := N) (n := n) (by
      intro h
      exact hN (some_true h.1)))
    have hN' : N < 1 ∨ ¬ N < 1 ∧ 64 < N := by omega
    clear hN
    rcases hN' with h | h
    all_goals
      go_enter Try.func10, Try.ntmps10
      go_wp2_with fail
      go_ret
      rw [H.out]
      exact ⟨_, rfl, World.ownsRow_nil _ _ _ _, Below.refl _ _⟩
theorem rep_set (A : List Value) (m i : Nat) (x z : Value) (h : A.length = i) : (A ++ List.replicate (m + 1) z).set i x = A ++ [x] ++ List.replicate m z := by
  rw [List.set_append_right _ _ (by omega), h, Nat.sub_self]
  simp [List.replicate_succ]
set_option maxHeartbeats 2000000 in
theorem turns_any (N n : Int) (hn : n ≤ 2000) (hn0 : -9223372036854775808 ≤ n) (w : World) :
    Calls Try.prog 8 #[.int .i64 N, .int .i64 n] w (NewIntsR (turnsR N n) w) := by
  have HS := Lib.hid (fun W => some_any N W)
  cases hs : someB N
  · have H := Lib.hid (turns_none (N := N) (n := n) (by intro h; rw [hs] at h; cases h.1))
    rw [hs] at HS
    clear hs
    go_enter Try.func8, Try.ntmps8
    go_wp2_with fail
    refine (HS.out _).mono ?_
    rintro e w1 ⟨rfl, rfl⟩
    go_wp2_with fail
    go_ret
    rw [H.out]
    exact ⟨_, rfl, World.ownsRow_nil _ _ _ _, Below.refl _ _⟩
  · obtain ⟨h0, h1⟩ := some_true hs
    rw [hs] at HS
    by_cases hn1 : n < 0
    · have H := Lib.hid (turns_none (N := N) (n := n) (by intro h; omega))
      clear hs
      go_enter Try.func8, Try.ntmps8
      go_wp2_with fail
      refine (HS.out _).mono ?_
      rintro e w1 ⟨rfl, rfl⟩
      go_wp2_with fail
      go_ret
      rw [H.out]
      exact ⟨_, rfl, World.ownsRow_nil _ _ _ _, Below.refl _ _⟩
    · obtain ⟨m, rfl⟩ := Int.eq_ofNat_of_zero_le (show 0 ≤ n by omega)
      have H := Lib.hid (turns_some (N := N) (n := (m : Int)) ⟨hs, by omega⟩)
      have hmk := run_make_elem elemIn .i64 .i64 m (by omega) (by omega)
      clear hs
      go_enter Try.func8, Try.ntmps8
      go_wp2_with fail
      refine (HS.out _).mono ?_
      rintro e w1 ⟨rfl, rfl⟩
      go_wp2_with fail
      have ho := owns_made (w := w) (base := w.heap.size) (e := 3) (size := 1) (n := m) (u := .int .i64 0) (z := #[.int .i64 0]) rfl (by decide) (Nat.le_refl _) (by unfold maxLen; omega)
      rw [Nat.mul_one] at ho
      have HO := Lib.hid ho
      have HB := Lib.hid ((Below.refl w.heap.size w).alloc (Nat.le_refl _) (.cells (madeCells #[.int .i64 0] m) 3))
      clear ho hmk
      try rw [Nat.mul_one]
      try generalize w.alloc (.cells (madeCells #[.int .i64 0] m) 3) = W1 at *
      go_loopw [6, 18] (fun _ i wr => ∃ k : Nat, k ≤ m ∧ i = .int .i64 k ∧ Hid (wr.ownsRow w.heap.size 3 1 (.slice (some ⟨w.heap.size, 0, none⟩) m m) m ((turnsL N k).map (Value.int .i64) ++ List.replicate (m - k) (.int .i64 0))) ∧ Hid (Below w.heap.size w wr)) (fun _ i _ => m - (intOf i).toNat)
      case atStart => exact ⟨0, Nat.zero_le _, rfl, HO, HB⟩
      case round =>
        obtain ⟨k, hk, rfl, HO, HB⟩ := hrel
        by_cases hlt : k < m
        · have r0 := Int.emod_nonneg (k : Int) (show N ≠ 0 by omega)
          have r1 := Int.emod_lt_of_pos (k : Int) (show 0 < N by omega)
          have hN0 : (N == 0) = false := by simp; omega
          have HT := Lib.hid (turnsL_succ N k)
          have hc0 : ∃ u, wr.cell? ⟨w.heap.size, k, none⟩ = some u := by
            rw [HO.out.cellAt _ (by omega)]; exact ⟨_, List.getElem?_eq_getElem (by rw [List.length_append, List.length_map, turnsL_length, List.length_replicate]; omega)⟩
          have hf0 := HO.out.frozenAt k
          obtain ⟨u0, hc0⟩ := hc0
          go_wp2_with fail
          go_roundw
          case rel =>
            refine ⟨k + 1, by omega, by go_num, Lib.hid ?_, Lib.hid (HB.out.setCell (p := ⟨w.heap.size, k, none⟩) (Nat.le_refl _) _)⟩
            have h := (HO.out.stored k (.int .i64 ((k : Int) % N))).1
            rw [show m - k = m - (k + 1) + 1 by omega, rep_set _ _ _ _ _ (by rw [List.length_map, turnsL_length])] at h
            rw [HT.out, List.map_append]
            exact h
          case measure => simp [intOf]; omega
        · have hk' : k = m := by omega
          subst hk'
          go_wp2_with fail
          go_ret
          refine ⟨_, rfl, ?_, HB.out⟩
          have h := HO.out
          rw [Nat.sub_self, List.replicate_zero, List.append_nil] at h
          rw [H.out, turnsL_length]
          exact h
end Go.Proofs.Ytancgbggppaceaa
