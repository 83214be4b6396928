/- Layer 8: New; the reference's Count and Check. -/
import Derived.Test.YtdnaildhcnekfaaDoorShpA
namespace Go.Proofs.YtdnaildhcnekfaaDoor
open Go.RowKit
set_option linter.unusedVariables false
theorem cloneS_any (v : Value) (zs : List Int) (h0 : 0 < zs.length) (hm : zs.length ≤ 1048576) (w : World) (hL : IntsAt .i64 w.heap.size w v zs) :
    Calls Tryd.prog 28 #[v] w (ClonedTo 3 1 zs.length (zs.map (Value.int .i64)) w) := by
  rcases hL.form with ⟨e0, rfl⟩ | ⟨b, off, cap', rfl, hcap, hb, hcs⟩
  · simp at h0
  · refine (Tryd.slices_Clone_int b off zs.length cap' zs w (Nat.le_refl _) (by omega) ?_).mono ?_
    · intro j hj
      rw [List.getD_eq_getElem?_getD]
      exact hcs j hj
    · rintro e w' ⟨u, rfl, ho, _, hb'⟩
      rw [List.take_length] at ho
      exact ⟨u, rfl, ho, hb'⟩
def ShapeNew (ss : List Int) (w : World) (e : Ending) (w' : World) : Prop :=
  (codeH ss = 0 ∧ ∃ b, e = .returned (.tuple #[.pointer (some ⟨b, 0, none⟩), .int .i64 0]) ∧ ShapeAt w.heap.size b w' ss ∧ Below w.heap.size w w') ∨
  (codeH ss ≠ 0 ∧ e = .returned (.tuple #[.pointer none, .int .i64 (codeH ss)]) ∧ Below w.heap.size w w')
set_option maxHeartbeats 2000000 in
theorem shapeNew_any (v : Value) (ss : List Int) (hm : ss.length ≤ maxLen) (w : World) (hv : IntsW .i64 w.heap.size w v ss) :
    Calls Tryd.prog 9 #[v] w (ShapeNew ss w) := by
  obtain ⟨a, c, rfl⟩ := hv.value
  unfold maxLen at hm
  by_cases h1 : (ss.length : Int) < 2
  · have g1 : decide ((ss.length : Int) < 2) = true := by simpa using h1
    have g1' : ss.length < 2 := by omega
    have H := Lib.hid (codeH_len (ss := ss) (.inl (by omega)))
    clear hv
    go_enter Tryd.func9, Tryd.ntmps9
    go_wp2_with fail
    go_ret2
    exact .inr ⟨by rw [H.out]; decide, by rw [H.out]; rfl, Below.refl _ _⟩
  · have g1 : decide ((ss.length : Int) < 2) = false := by simpa using h1
    have g1' : ¬ ss.length < 2 := by omega
    by_cases h2 : 16 < (ss.length : Int)
    · have g2 : decide (16 < (ss.length : Int)) = true := by simpa using h2
      have g2' : 16 < ss.length := by omega
      have H := Lib.hid (codeH_len (ss := ss) (.inr (by omega)))
      clear hv
      go_enter Tryd.func9, Tryd.ntmps9
      go_wp2_with fail
      go_ret2
      exact .inr ⟨by rw [H.out]; decide, by rw [H.out]; rfl, Below.refl _ _⟩
    · have g2 : decide (16 < (ss.length : Int)) = false := by simpa using h2
      have g2' : ¬ 16 < ss.length := by omega
      have hi := hv.pos (by omega)
      rcases hi.form with ⟨_, e0⟩ | ⟨b, off, cap, e0, hcap, hb, hcs⟩
      · rw [e0] at g1'; simp at g1'
      cases e0
      have HI := Lib.hid hi
      have HCS := Lib.hid hcs
      have HGN := Lib.hid (show ¬ (ss.length < 2 ∨ 16 < ss.length) by omega)
      clear hv hi hcs
      go_enter Tryd.func9, Tryd.ntmps9
      go_wp2_with fail
      go_loopw [5, 17] (fun _ iv wr => ∃ k : Nat, k ≤ ss.length ∧ iv = .int .i64 k ∧ Hid (goodTo ss k) ∧ w = wr) (fun _ iv _ => ss.length - (intOf iv).toNat)
      case atStart => exact ⟨0, Nat.zero_le _, rfl, Lib.hid (fun j hj => absurd hj (Nat.not_lt_zero j)), rfl⟩
      case round =>
        obtain ⟨k, hk, rfl, HG, rfl⟩ := hrel
        by_cases hlt : k < ss.length
        · have ck := HCS.out k hlt
          have hbw : b < w.heap.size := World.block_lt_of_cell? _ _ ck
          by_cases l1 : ss[k]?.getD 0 < 1
          · have d1 : decide (ss[k]?.getD 0 < 1) = true := by simpa using l1
            have H := Lib.hid (codeH_bad hlt (show goodB (ss[k]?.getD 0) = false by unfold goodB; rw [show decide (1 ≤ ss[k]?.getD 0) = false by simp; omega]; rfl))
            generalize ss[k]?.getD 0 = x at *
            go_wp2_with fail
            go_ret2
            exact .inr ⟨by rw [H.out]; decide, by rw [H.out]; rfl, Below.refl _ _⟩
          · have d1 : decide (ss[k]?.getD 0 < 1) = false := by simpa using l1
            by_cases l2 : 1048576 < ss[k]?.getD 0
            · have d2 : decide (1048576 < ss[k]?.getD 0) = true := by simpa using l2
              have H := Lib.hid (codeH_bad hlt (show goodB (ss[k]?.getD 0) = false by unfold goodB; rw [show decide (ss[k]?.getD 0 ≤ 1048576) = false by simp; omega, Bool.and_false]))
              generalize ss[k]?.getD 0 = x at *
              go_wp2_with fail
              go_ret2
              exact .inr ⟨by rw [H.out]; decide, by rw [H.out]; rfl, Below.refl _ _⟩
            · have d2 : decide (1048576 < ss[k]?.getD 0) = false := by simpa using l2
              have HG2 := Lib.hid (HG.out.succ (goodB_iff.2 ⟨by omega, by omega⟩))
              generalize ss[k]?.getD 0 = x at *
              go_wp2_with fail
              go_roundw
              case rel => exact ⟨k + 1, by omega, by go_num, HG2, trivial⟩
              case measure => simp [intOf]; omega
        · have hke : k = ss.length := by omega
          subst hke
          have HST := Lib.hid (fun W h => starts_any (.slice (some ⟨b, off, none⟩) ss.length c) ss (by omega) (by omega) HG.out W h)
          go_wp2_with fail
          refine (cloneS_any _ ss (by omega) (by omega) _ HI.out).mono ?_
          rintro e w1 ⟨v1, rfl, o1, b1⟩
          have O1 := Lib.hid o1
          have B1 := Lib.hid b1
          have I1 := Lib.hid (HI.out.later b1)
          obtain ⟨a1, c1, rfl⟩ := own_value o1
          clear o1 b1
          go_wp2_with fail
          refine (HST.out _ I1.out).mono ?_
          rintro e w2 ⟨v2, rfl, o2, b2⟩
          have O2 := Lib.hid (owns_mono B1.out.size o2)
          have P2 := Lib.hid (own_below O1.out b2)
          have B2 := Lib.hid (below_step B1.out b2)
          obtain ⟨a2, c2, rfl⟩ := own_value o2
          have hs2 := B2.out.size
          clear o2 b2 O1 B1 I1 HST
          have al := (Below.refl w2.heap.size w2).alloc (Nat.le_refl _) (.cells #[.slice a1 ss.length c1, .slice a2 ss.length c2] 56)
          have F := cells_two w2 (.slice a1 ss.length c1) (.slice a2 ss.length c2) 56
          have SA : ShapeAt w.heap.size w2.heap.size (w2.alloc (.cells #[.slice a1 ss.length c1, .slice a2 ss.length c2] 56)) ss := ⟨hs2, by simp, by omega, _, _, F.1, F.2, own_below P2.out al, own_below O2.out al⟩
          have HSA := Lib.hid SA
          have B3 := Lib.hid (below_step B2.out al)
          have HCT := Lib.hid (count_shape _ _ ss (by omega) _ SA)
          have rg := st_range (k := ss.length - 1) HG.out (by omega)
          have HC0 := Lib.hid (fun h => codeH_ok HGN.out HG.out h)
          have HC4 := Lib.hid (fun h => codeH_long HGN.out HG.out h)
          clear F al SA O2 P2 B2
          generalize stTo ss (ss.length - 1) = z at *
          go_upto_region 10 with fail
          generalize (w2.alloc (.cells #[.slice a1 ss.length c1, .slice a2 ss.length c2] 56)) = W3 at *
          generalize w2.heap.size = B at *
          go_wp2_with fail
          refine HCT.out.mono ?_
          rintro e w4 ⟨rfl, b4⟩
          have B4 := Lib.hid (below_step B3.out b4)
          have S4 := Lib.hid (HSA.out.later b4)
          clear b4
          by_cases hz : 1048576 < z
          · have d3 : decide (1048576 < z) = true := by simpa using hz
            go_wp2_with fail
            go_ret2
            have H4 := HC4.out hz
            exact .inr ⟨by rw [H4]; decide, by rw [H4]; rfl, B4.out⟩
          · have d3 : decide (1048576 < z) = false := by simpa using hz
            go_wp2_with fail
            go_ret2
            exact .inl ⟨HC0.out hz, _, rfl, S4.out, B4.out⟩
set_option maxHeartbeats 1000000 in
theorem refCount_any (v : Value) (ss : List Int) (h2 : 2 ≤ ss.length) (h16 : ss.length ≤ 16) (hg : goodTo ss ss.length) (w : World) (hv : IntsAt .i64 w.heap.size w v ss) :
    Calls Tryd.prog 15 #[v] w fun e w' => e = .returned (.int .i64 (stTo ss (ss.length - 1))) ∧ Below w.heap.size w w' := by
  rcases hv.form with ⟨_, e0⟩ | ⟨b, off, cap, rfl, hcap, hb, hcs⟩
  · rw [e0] at h2; simp at h2
  have HCS := Lib.hid hcs
  have HG := Lib.hid hg
  have B0 := Lib.hid (Below.refl w.heap.size w)
  clear hcs hv hg
  go_enter Tryd.func15, Tryd.ntmps15
  go_wp2_with fail
  go_loopw [3, 4] (fun nv iv wr => ∃ k : Nat, k ≤ ss.length - 1 ∧ iv = .int .i64 k ∧ nv = .int .i64 (stTo ss k) ∧ Hid (Below w.heap.size w wr)) (fun _ iv _ => ss.length - (intOf iv).toNat)
  case atStart => exact ⟨0, Nat.zero_le _, rfl, rfl, B0⟩
  case round =>
    obtain ⟨k, hk, rfl, rfl, HB⟩ := hrel
    by_cases hlt : k < ss.length - 1
    · have g1 := goodB_iff.1 (HG.out k (by omega))
      have g2 := goodB_iff.1 (HG.out (k + 1) (by omega))
      have rg := st_range (k := k) HG.out (by omega)
      have sp := st_step (k := k) HG.out (by omega)
      have c1 := (HB.out.cell (p := ⟨b, off + k, none⟩) hb).trans (HCS.out k (by omega))
      have c2 := (HB.out.cell (p := ⟨b, off + (k + 1), none⟩) hb).trans (HCS.out (k + 1) (by omega))
      have hbw : b < wr.heap.size := World.block_lt_of_cell? _ _ c1
      have HS : Hid (stTo ss (k + 1) = stTo ss k + (ss[k]?.getD 0 + 1) * ss[k + 1]?.getD 0) := Lib.hid rfl
      have w0 : IntKind.i64.wrap (ss[k]?.getD 0 + 1) = ss[k]?.getD 0 + 1 := IntWalk.i64_in _ (by omega)
      have w1 : IntKind.i64.wrap ((ss[k]?.getD 0 + 1) * ss[k + 1]?.getD 0) = (ss[k]?.getD 0 + 1) * ss[k + 1]?.getD 0 := IntWalk.i64_in _ (by omega)
      have w2 : IntKind.i64.wrap (stTo ss k + (ss[k]?.getD 0 + 1) * ss[k + 1]?.getD 0) = stTo ss k + (ss[k]?.getD 0 + 1) * ss[k + 1]?.getD 0 := IntWalk.i64_in _ (by omega)
      have w3 : IntKind.i64.wrap ((k : Int) + 1) = ((k + 1 : Nat) : Int) := IntWalk.i64_in _ (by omega)
      have i1 : (k : Int) < ss.length := by omega
      have i2 : ((k + 1 : Nat) : Int) < ss.length := by omega
      clear rg
      generalize stTo ss k = s at *
      generalize ss[k]?.getD 0 = x at *
      generalize ss[k + 1]?.getD 0 = y at *
      go_wp2_with fail
      go_quiet (fail)
      have B2 := Lib.hid (below_drewN HB.out nq)
      generalize (World.drewN _ nq) = W2 at *
      go_wp2_with fail
      go_roundw
      case rel => exact ⟨k + 1, by omega, by go_num, by rw [HS.out], B2⟩
      case measure => simp [intOf]; omega
    · have hke : k = ss.length - 1 := by omega
      have HKE := Lib.hid hke
      clear hke
      have hge : ss.length ≤ k + 1 := by omega
      go_wp2_with fail
      go_ret
      rw [HKE.out]
      exact ⟨rfl, HB.out⟩
set_option maxHeartbeats 1000000 in
theorem refCheckS_any (v : Value) (ss : List Int) (hm : ss.length ≤ maxLen) (w : World) (hv : IntsW .i64 w.heap.size w v ss) :
    Calls Tryd.prog 10 #[v] w fun e w' => e = .returned (.int .i64 (codeH ss)) ∧ Below w.heap.size w w' := by
  obtain ⟨a, c, rfl⟩ := hv.value
  unfold maxLen at hm
  by_cases h1 : (ss.length : Int) < 2
  · have g1 : decide ((ss.length : Int) < 2) = true := by simpa using h1
    have g1' : ss.length < 2 := by omega
    have H := Lib.hid (codeH_len (ss := ss) (.inl (by omega)))
    clear hv
    go_enter Tryd.func10, Tryd.ntmps10
    go_wp2_with fail
    go_ret
    exact ⟨by rw [H.out]; rfl, Below.refl _ _⟩
  · have g1 : decide ((ss.length : Int) < 2) = false := by simpa using h1
    have g1' : ¬ ss.length < 2 := by omega
    by_cases h2 : 16 < (ss.length : Int)
    · have g2 : decide (16 < (ss.length : Int)) = true := by simpa using h2
      have g2' : 16 < ss.length := by omega
      have H := Lib.hid (codeH_len (ss := ss) (.inr (by omega)))
      clear hv
      go_enter Tryd.func10, Tryd.ntmps10
      go_wp2_with fail
      go_ret
      exact ⟨by rw [H.out]; rfl, Below.refl _ _⟩
    · have g2 : decide (16 < (ss.length : Int)) = false := by simpa using h2
      have g2' : ¬ 16 < ss.length := by omega
      have hi := hv.pos (by omega)
      rcases hi.form with ⟨_, e0⟩ | ⟨b, off, cap, e0, hcap, hb, hcs⟩
      · rw [e0] at g1'; simp at g1'
      cases e0
      have HI := Lib.hid hi
      have HCS := Lib.hid hcs
      have HGN := Lib.hid (show ¬ (ss.length < 2 ∨ 16 < ss.length) by omega)
      clear hv hi hcs
      go_enter Tryd.func10, Tryd.ntmps10
      go_wp2_with fail
      go_loopw [3] (fun iv wr => ∃ k : Nat, k ≤ ss.length ∧ iv = .int .i64 k ∧ Hid (goodTo ss k) ∧ w = wr) (fun iv _ => ss.length - (intOf iv).toNat)
      case atStart => exact ⟨0, Nat.zero_le _, rfl, Lib.hid (fun j hj => absurd hj (Nat.not_lt_zero j)), rfl⟩
      case round =>
        obtain ⟨k, hk, rfl, HG, rfl⟩ := hrel
        by_cases hlt : k < ss.length
        · have ck := HCS.out k hlt
          have hbw : b < w.heap.size := World.block_lt_of_cell? _ _ ck
          by_cases l1 : ss[k]?.getD 0 < 1
          · have d1 : decide (ss[k]?.getD 0 < 1) = true := by simpa using l1
            have H := Lib.hid (codeH_bad hlt (show goodB (ss[k]?.getD 0) = false by unfold goodB; rw [show decide (1 ≤ ss[k]?.getD 0) = false by simp; omega]; rfl))
            generalize ss[k]?.getD 0 = x at *
            go_wp2_with fail
            go_ret
            exact ⟨by rw [H.out]; rfl, Below.refl _ _⟩
          · have d1 : decide (ss[k]?.getD 0 < 1) = false := by simpa using l1
            by_cases l2 : 1048576 < ss[k]?.getD 0
            · have d2 : decide (1048576 < ss[k]?.getD 0) = true := by simpa using l2
              have H := Lib.hid (codeH_bad hlt (show goodB (ss[k]?.getD 0) = false by unfold goodB; rw [show decide (ss[k]?.getD 0 ≤ 1048576) = false by simp; omega, Bool.and_false]))
              generalize ss[k]?.getD 0 = x at *
              go_wp2_with fail
              go_ret
              exact ⟨by rw [H.out]; rfl, Below.refl _ _⟩
            · have d2 : decide (1048576 < ss[k]?.getD 0) = false := by simpa using l2
              have HG2 := Lib.hid (HG.out.succ (goodB_iff.2 ⟨by omega, by omega⟩))
              generalize ss[k]?.getD 0 = x at *
              go_wp2_with fail
              go_roundw
              case rel => exact ⟨k + 1, by omega, by go_num, HG2, trivial⟩
              case measure => simp [intOf]; omega
        · have hke : k = ss.length := by omega
          subst hke
          have HCT := Lib.hid (refCount_any _ ss (by omega) (by omega) HG.out _ HI.out)
          have HC0 := Lib.hid (fun h => codeH_ok HGN.out HG.out h)
          have HC4 := Lib.hid (fun h => codeH_long HGN.out HG.out h)
          have rg := st_range (k := ss.length - 1) HG.out (by omega)
          generalize stTo ss (ss.length - 1) = z at *
          go_wp2_with fail
          refine HCT.out.mono ?_
          rintro e w4 ⟨rfl, b4⟩
          have B4 := Lib.hid b4
          clear b4
          by_cases hz : 1048576 < z
          · have d3 : decide (1048576 < z) = true := by simpa using hz
            go_wp2_with fail
            go_ret
            have H4 := HC4.out hz
            exact ⟨by rw [H4]; rfl, B4.out⟩
          · have d3 : decide (1048576 < z) = false := by simpa using hz
            go_wp2_with fail
            go_ret
            have H4 := HC0.out hz
            exact ⟨by rw [H4]; rfl, B4.out⟩
end Go.Proofs.YtdnaildhcnekfaaDoor
