/- Layer 23: Fair, and the reference's. -/
import Derived.Test.YtancgbggppaceaaBndF
namespace Go.Proofs.Ytancgbggppaceaa
open Go.RowKit Go.Maps
set_option linter.unusedVariables false
theorem fair_small (N : Int) (ps : List Int) (h : someB N = false) : fairB N ps = false := by
  unfold fairB someB at *
  cases h1 : decide (1 ≤ N)
  · rfl
  · rw [h1, Bool.true_and] at h
    rw [h]; rfl
theorem fair_some {N : Int} (ps : List Int) (h0 : 1 ≤ N) (h1 : N ≤ 64) : fairB N ps = (decide ((ps.length : Int) < N) || fitsB N ps) := by
  unfold fairB
  simp [h0, h1]
theorem some_true {N : Int} (h : someB N = true) : 1 ≤ N ∧ N ≤ 64 := by
  unfold someB at h
  simpa using h
theorem litsI_lastF (ps : List Int) (k : Nat) (h : k < ps.length) : litsI (upd (lastF (ps.take k)) (ps[k]?.getD 0) (k : Int)) = litsI (lastF (ps.take (k + 1))) := by
  rw [List.take_succ_eq_append_getElem h, lastF_snoc, List.getElem?_eq_getElem h, List.length_take, Nat.min_eq_left (Nat.le_of_lt h)]
  rfl
theorem fits_no {N : Int} {ps : List Int} {k : Nat} (hk : k < ps.length) (h : fitB (lastF (ps.take k)) N k (ps[k]?.getD 0) = false) : fitsB N ps = false := by
  rw [Bool.eq_false_iff]
  intro ht
  have := List.all_eq_true.1 ht k (List.mem_range.2 hk)
  rw [h] at this
  cases this
def OkB (N : Int) (ps : List Int) (k : Nat) : Prop := ∀ j, j < k → fitB (lastF (ps.take j)) N j (ps[j]?.getD 0) = true
theorem fits_yes {N : Int} {ps : List Int} (h : OkB N ps ps.length) : fitsB N ps = true := List.all_eq_true.2 fun k hk => h k (List.mem_range.1 hk)
theorem OkB.succ {N : Int} {ps : List Int} {k : Nat} (h : OkB N ps k) (hk : fitB (lastF (ps.take k)) N k (ps[k]?.getD 0) = true) : OkB N ps (k + 1) := fun j hj => by
  rcases Nat.lt_succ_iff_lt_or_eq.1 hj with h1 | rfl
  · exact h j h1
  · exact hk
set_option maxHeartbeats 2000000 in
theorem fair_any (N : Int) (v : Value) (ps : List Int) (hm : ps.length ≤ 1048576) (hw : ∀ z ∈ ps, -9223372036854775808 ≤ z ∧ z ≤ 9223372036854775807) (w : World) (hv : IntsAt .i64 w.heap.size w v ps) :
    Calls Try.prog 6 #[.int .i64 N, v] w fun e w' => e = .returned (.bool (fairB N ps)) ∧ Below w.heap.size w w' := by
  obtain ⟨a, c, rfl⟩ := ints_value hv
  have AL := (Below.refl w.heap.size w).alloc (Nat.le_refl _) (.cells #[.int .i64 N] 3)
  have HS := Lib.hid (fun W => some_any N W)
  cases hs : someB N
  · have H := Lib.hid (fair_small N ps hs)
    rw [hs] at HS
    clear hs hv
    go_enter Try.func6, Try.ntmps6
    go_wp2_with fail
    refine (HS.out _).mono ?_
    rintro e w1 ⟨rfl, rfl⟩
    go_wp2_with fail
    go_ret
    exact ⟨by rw [H.out]; rfl, AL⟩
  · obtain ⟨h0, h1⟩ := some_true hs
    have HF := Lib.hid (fair_some ps h0 h1)
    rw [hs] at HS
    clear hs
    by_cases hlen : (ps.length : Int) < N
    · have g : decide ((ps.length : Int) < N) = true := by simpa using hlen
      have H := Lib.hid (show fairB N ps = true by rw [HF.out, g]; rfl)
      clear hv
      go_enter Try.func6, Try.ntmps6
      go_wp2_with fail
      refine (HS.out _).mono ?_
      rintro e w1 ⟨rfl, rfl⟩
      go_wp2_with fail
      go_ret
      exact ⟨by rw [H.out]; rfl, AL⟩
    · have g : decide ((ps.length : Int) < N) = false := by simpa using hlen
      have H := Lib.hid (show fairB N ps = fitsB N ps by rw [HF.out, g]; rfl)
      have hmm := @run_makeMap Try.prog
      have HV := Lib.hid hv
      have HW := Lib.hid hw
      clear hv hw hlen
      go_enter Try.func6, Try.ntmps6
      go_wp2_with fail
      refine (HS.out _).mono ?_
      rintro e w1 ⟨rfl, rfl⟩
      go_wp2_with fail
      have c0 := cell_new w #[.int .i64 N] 3 0
      have M0 := MapIs.new Try.prog (w.alloc (.cells #[.int .i64 N] 3)) 3 3
      have c2 := cell_new ((w.alloc (.cells #[.int .i64 N] 3)).alloc (.map #[] 0)) #[.map (some (w.heap.size + 1))] 30 0
      have b1 := (Below.refl (w.alloc (.cells #[.int .i64 N] 3)).heap.size (w.alloc (.cells #[.int .i64 N] 3))).alloc (Nat.le_refl _) (.map #[] 0)
      have b2 := (Below.refl ((w.alloc (.cells #[.int .i64 N] 3)).alloc (.map #[] 0)).heap.size ((w.alloc (.cells #[.int .i64 N] 3)).alloc (.map #[] 0))).alloc (Nat.le_refl _) (.cells #[.map (some (w.heap.size + 1))] 30)
      have C0 := cell_step b2 (cell_step b1 (c0.trans rfl))
      have M2 := M0
      have hz3 : (((w.alloc (.cells #[.int .i64 N] 3)).alloc (.map #[] 0)).alloc (.cells #[.map (some (w.heap.size + 1))] 30)).heap.size = w.heap.size + 3 := by simp
      have M3 := M2.below b2
      have B3 := Lib.hid ((AL.alloc AL.size (.map #[] 0)).alloc (by simp; omega) (.cells #[.map (some (w.heap.size + 1))] 30))
      rw [show ((w.alloc (.cells #[.int .i64 N] 3)).alloc (.map #[] 0)).heap.size = w.heap.size + 1 + 1 by simp] at c2
      rw [show (w.alloc (.cells #[.int .i64 N] 3)).heap.size = w.heap.size + 1 by simp] at M3
      have C2 := c2.trans rfl
      have M3 := Lib.hid (show MapIs Try.prog _ 3 3 (w.heap.size + 1) 0 (litsI (lastF (ps.take 0))) from M3)
      clear c0 c2 b1 b2 M0 M2 hmm
      generalize ((w.alloc (.cells #[.int .i64 N] 3)).alloc (.map #[] 0)).alloc (.cells #[.map (some (w.heap.size + 1))] 30) = W3 at *
      have HC0 := Lib.hid C0
      have HC2 := Lib.hid C2
      clear C0 C2
      go_loopw [7, 8, 20] (fun _ _ i wr => ∃ k : Nat, k ≤ ps.length ∧ i = .int .i64 k ∧ Hid (MapIs Try.prog wr 3 3 (w.heap.size + 1) k (litsI (lastF (ps.take k)))) ∧ Hid (wr.cell? ⟨w.heap.size, 0, none⟩ = some (.int .i64 N)) ∧ Hid (wr.cell? ⟨w.heap.size + 1 + 1, 0, none⟩ = some (.map (some (w.heap.size + 1)))) ∧ Hid (Below w.heap.size w wr) ∧ OkB N ps k) (fun _ _ i _ => ps.length - (intOf i).toNat)
      case atStart => exact ⟨0, Nat.zero_le _, rfl, M3, HC0, HC2, B3, fun j hj => absurd hj (Nat.not_lt_zero j)⟩
      case round =>
        obtain ⟨k, hk, rfl, HM, HC0, HC2, HB, hok⟩ := hrel
        have HO := Lib.hid hok
        clear hok
        by_cases hlt : k < ps.length
        · rcases HV.out.form with ⟨_, e0⟩ | ⟨b, off, cap, e0, hc, hb, hcs⟩
          · rw [e0] at hlt; cases hlt
          cases e0
          have c0 := (HB.out.cell (p := ⟨b, off + k, none⟩) hb).trans (hcs k hlt)
          have hzw := HW.out (ps[k]?.getD 0) (by rw [List.getElem?_eq_getElem hlt, Option.getD_some]; exact List.getElem_mem hlt)
          have HN := Lib.hid (litsI_lastF ps k hlt)
          have HFN := Lib.hid (fun h => fits_no (N := N) hlt h)
          have HFY := Lib.hid (fun h => HO.out.succ (N := N) h)
          generalize hzz : ps[k]?.getD 0 = z at *
          have hbt : ∀ x p, lastF (ps.take k) x = some p → 0 ≤ p ∧ p ≤ (k : Int) := fun x p hx => by
            obtain ⟨q, hq, h1, _⟩ := lastF_some _ _ _ hx
            rw [List.length_take] at hq
            omega
          have HFI := Lib.hid (fits_any (k : Int) z N (w.heap.size + 1 + 1) w.heap.size (w.heap.size + 1) k (lastF (ps.take k)) (by unfold maxLen; omega) (by omega) (by omega) hbt h0 h1 (wf_of hzw) wr HC2.out HC0.out (by omega) HM.out)
          have HZZ := Lib.hid hzz
          have hbw : b < wr.heap.size := World.block_lt_of_cell? _ _ c0
          clear hcs hbt hzz
          go_wp2_with fail
          refine HFI.out.mono ?_
          rintro e w5 ⟨rfl, hm5, hg5⟩
          have HM5 := Lib.hid (show MapIs Try.prog w5 3 3 (w.heap.size + 1) (k + 1) (litsI (lastF (ps.take (k + 1)))) from HN.out ▸ hm5)
          have HB5 := Lib.hid (HB.out.grown hg5 HB.out.size (fun j e => by cases e; omega))
          have HC05 := Lib.hid ((grown_cell (o := 0) hg5 (World.block_lt_of_cell? _ _ HC0.out) (show w.heap.size ≠ w.heap.size + 1 by omega)).trans HC0.out)
          have HC25 := Lib.hid ((grown_cell (o := 0) hg5 (World.block_lt_of_cell? _ _ HC2.out) (show w.heap.size + 1 + 1 ≠ w.heap.size + 1 by omega)).trans HC2.out)
          clear hm5 hg5 HFI
          cases hfit : fitB (lastF (ps.take k)) N k z
          · have H2 := Lib.hid (HFN.out hfit)
            clear hfit
            go_wp2_with fail
            go_ret
            exact ⟨by rw [H.out, H2.out]; rfl, HB5.out⟩
          · have H2 := Lib.hid (HFY.out hfit)
            clear hfit
            go_wp2_with fail
            go_roundw
            case rel => exact ⟨k + 1, by omega, by go_num, HM5, HC05, HC25, HB5, H2.out⟩
            case measure => simp [intOf]; omega
        · have hk' : k = ps.length := by omega
          subst hk'
          have H2 := Lib.hid (fits_yes HO.out)
          go_wp2_with fail
          go_ret
          exact ⟨by rw [H.out, H2.out]; rfl, HB.out⟩
end Go.Proofs.Ytancgbggppaceaa
