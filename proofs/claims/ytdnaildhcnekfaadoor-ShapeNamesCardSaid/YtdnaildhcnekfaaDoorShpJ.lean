/- Layer 8: ShapeRanges. -/
import Derived.Test.YtdnaildhcnekfaaDoorShpI
namespace Go.Proofs.YtdnaildhcnekfaaDoor
open Go.RowKit
set_option linter.unusedVariables false
theorem chain_ranges {ss : List Int} (hr : RightH ss) : ∀ k, k < ss.length → Chain 0 (rangesL ss k) (stTo ss k) = true
  | 0, _ => by simp [rangesL, Chain, stTo]
  | k + 1, hk => by
    have ih := chain_ranges hr k (by omega)
    have g0 := goodB_iff.1 (hr.good k (by omega))
    have g1 := goodB_iff.1 (hr.good (k + 1) hk)
    have hp : 0 ≤ ss[k]?.getD 0 * ss[k + 1]?.getD 0 := Int.mul_nonneg (by omega) (by omega)
    have h1 : (wR ss k).1 ≤ (wR ss k).2 := by
      unfold wR
      show stTo ss k ≤ stTo ss k + (ss[k]?.getD 0 + 1) * ss[k + 1]?.getD 0 - ss[k + 1]?.getD 0
      rw [Int.add_mul, Int.one_mul]
      omega
    have h2 : (bR ss k).1 ≤ (bR ss k).2 := by
      unfold bR
      dsimp only
      omega
    have c1 := chain_append 0 (rangesL ss k) (wR ss k) (wR ss k).2 ih h1 rfl
    have c2 := chain_append 0 (rangesL ss k ++ [wR ss k]) (bR ss k) (stTo ss (k + 1)) c1 h2 rfl
    unfold rangesL
    rw [show [wR ss k, bR ss k] = [wR ss k] ++ [bR ss k] from rfl, ← List.append_assoc]
    exact c2
theorem refWeights_out (a : Option Addr) (n c : Nat) (hn : n ≤ 1048576) (k : Int) (hk : ¬ (0 ≤ k ∧ k < (n : Int) - 1)) (w : World) :
    Calls Tryd.prog 17 #[.slice a n c, .int .i64 k] w fun e w' => e = .returned (.agg #[.int .i64 0, .int .i64 0]) ∧ Below w.heap.size w w' := by
  have bA := (Below.refl w.heap.size w).alloc (Nat.le_refl _) (.cells #[.int .i64 0, .int .i64 0] 34)
  have T1 := Two.new w 34 (.int .i64 0) (.int .i64 0)
  obtain ⟨t0, t1⟩ := T1.cells
  have f0 := T1.frozen 0
  have f1 := T1.frozen 1
  have wl : IntKind.i64.wrap ((n : Int) - 1) = (n : Int) - 1 := IntWalk.i64_in _ (by omega)
  have SS := T1.store (.int .i64 0) (.int .i64 0)
  have hg : (decide (k < 0) = true) ∨ (decide (k < 0) = false ∧ ¬ k < 0 ∧ decide ((n : Int) - 1 ≤ k) = true) := by
    by_cases h : k < 0
    · exact .inl (by simpa using h)
    · exact .inr ⟨by simpa using h, h, by simp; omega⟩
  rcases hg with g | ⟨g, g1, g2⟩
  · go_enter Tryd.func17, Tryd.ntmps17
    go_wp2_with fail
    refine bodyPost_ret (v := .agg #[.int .i64 0, .int .i64 0]) ?_ rfl ⟨rfl, ?_⟩
    · simp [results, Tryd.results17, t0, t1, go_sem]
    · first | exact bA | exact below_set (below_set bA (Nat.le_refl _)) (Nat.le_refl _)
  · go_enter Tryd.func17, Tryd.ntmps17
    go_wp2_with fail
    refine bodyPost_ret (v := .agg #[.int .i64 0, .int .i64 0]) ?_ rfl ⟨rfl, ?_⟩
    · simp [results, Tryd.results17, t0, t1, go_sem]
    · first | exact bA | exact below_set (below_set bA (Nat.le_refl _)) (Nat.le_refl _)
theorem refBiases_out (a : Option Addr) (n c : Nat) (hn : n ≤ 1048576) (k : Int) (hk : ¬ (0 ≤ k ∧ k < (n : Int) - 1)) (w : World) :
    Calls Tryd.prog 19 #[.slice a n c, .int .i64 k] w fun e w' => e = .returned (.agg #[.int .i64 0, .int .i64 0]) ∧ Below w.heap.size w w' := by
  have bA := (Below.refl w.heap.size w).alloc (Nat.le_refl _) (.cells #[.int .i64 0, .int .i64 0] 34)
  have T1 := Two.new w 34 (.int .i64 0) (.int .i64 0)
  obtain ⟨t0, t1⟩ := T1.cells
  have f0 := T1.frozen 0
  have f1 := T1.frozen 1
  have wl : IntKind.i64.wrap ((n : Int) - 1) = (n : Int) - 1 := IntWalk.i64_in _ (by omega)
  have SS := T1.store (.int .i64 0) (.int .i64 0)
  have hg : (decide (k < 0) = true) ∨ (decide (k < 0) = false ∧ ¬ k < 0 ∧ decide ((n : Int) - 1 ≤ k) = true) := by
    by_cases h : k < 0
    · exact .inl (by simpa using h)
    · exact .inr ⟨by simpa using h, h, by simp; omega⟩
  rcases hg with g | ⟨g, g1, g2⟩
  · go_enter Tryd.func19, Tryd.ntmps19
    go_wp2_with fail
    refine bodyPost_ret (v := .agg #[.int .i64 0, .int .i64 0]) ?_ rfl ⟨rfl, ?_⟩
    · simp [results, Tryd.results19, t0, t1, go_sem]
    · first | exact bA | exact below_set (below_set bA (Nat.le_refl _)) (Nat.le_refl _)
  · go_enter Tryd.func19, Tryd.ntmps19
    go_wp2_with fail
    refine bodyPost_ret (v := .agg #[.int .i64 0, .int .i64 0]) ?_ rfl ⟨rfl, ?_⟩
    · simp [results, Tryd.results19, t0, t1, go_sem]
    · first | exact bA | exact below_set (below_set bA (Nat.le_refl _)) (Nat.le_refl _)
set_option maxRecDepth 4000 in
set_option maxHeartbeats 2000000 in
theorem walk_ranges (v : Value) (ss : List Int) (k : Int) (hm : ss.length ≤ maxLen) (w : World) (hv : IntsW .i64 w.heap.size w v ss) :
    Calls Tryd.prog 4 #[v, .int .i64 k] w fun e w' => e = .returned (.bool true) ∧ Below w.heap.size w w' := by
  obtain ⟨a, c, rfl⟩ := hv.value
  have HV := Lib.hid hv
  have HCK := Lib.hid (refCheckS_any (.slice a ss.length c) ss hm w hv)
  have hm' := hm
  unfold maxLen at hm'
  clear hv
  by_cases h40 : ss.length ≤ 40
  · have g1 : decide ((40 : Int) < (ss.length : Int)) = false := by simp; omega
    have g0 : ¬ (40 : Int) < (ss.length : Int) := by omega
    obtain ⟨cd, hcd⟩ : ∃ cd, cd = codeH ss := ⟨_, rfl⟩
    rw [← hcd] at HCK
    by_cases hc0 : cd = 0
    · subst hc0
      have hR := codeH_zero.1 hcd.symm
      have h0 : codeH ss = 0 := hcd.symm
      have h16 := hR.l16
      have h2 := hR.l2
      clear hcd hm
      go_enter Tryd.func4, Tryd.ntmps4
      go_wp2_with fail
      refine HCK.out.mono ?_
      rintro e w1 ⟨rfl, b1⟩
      have HN := Lib.hid (shapeNew_any (.slice a ss.length c) ss (by unfold maxLen; omega) w1 ((HV.out.below b1).grow b1.size))
      have B1 := Lib.hid b1
      clear HCK b1
      go_wp2_with fail
      refine HN.out.mono ?_
      clear HN
      rintro e w2 (⟨_, b, rfl, hS, b2⟩ | ⟨hne, _⟩)
      · have B2 := Lib.hid (B1.out.trans (b2.mono B1.out.size))
        have hI2 := IntsW.pos ((HV.out.below B2.out).grow B2.out.size) (by omega)
        have HALL : ∃ x0 x1 y0 y1 : Int, (∀ W, Below w2.heap.size w2 W → Calls Tryd.prog 16 #[.pointer (some ⟨b, 0, none⟩), .int .i64 k] W fun e w' => e = .returned (.agg #[.int .i64 x0, .int .i64 x1]) ∧ Below W.heap.size W w') ∧
            (∀ W, Below w2.heap.size w2 W → Calls Tryd.prog 17 #[.slice a ss.length c, .int .i64 k] W fun e w' => e = .returned (.agg #[.int .i64 x0, .int .i64 x1]) ∧ Below W.heap.size W w') ∧
            (∀ W, Below w2.heap.size w2 W → Calls Tryd.prog 18 #[.pointer (some ⟨b, 0, none⟩), .int .i64 k] W fun e w' => e = .returned (.agg #[.int .i64 y0, .int .i64 y1]) ∧ Below W.heap.size W w') ∧
            (∀ W, Below w2.heap.size w2 W → Calls Tryd.prog 19 #[.slice a ss.length c, .int .i64 k] W fun e w' => e = .returned (.agg #[.int .i64 y0, .int .i64 y1]) ∧ Below W.heap.size W w') := by
          by_cases hk : 0 ≤ k ∧ k < (ss.length : Int) - 1
          · obtain ⟨K, rfl⟩ : ∃ K : Nat, k = K := ⟨k.toNat, by omega⟩
            exact ⟨_, _, _, _, fun W hW => weights_in _ b ss hR K (by omega) W (hS.later hW), fun W hW => refWeights_in _ ss hR K (by omega) W (hI2.later hW), fun W hW => biases_in _ b ss hR K (by omega) W (hS.later hW), fun W hW => refBiases_in _ ss hR K (by omega) W (hI2.later hW)⟩
          · exact ⟨0, 0, 0, 0, fun W hW => weights_out _ b ss (by omega) k (by omega) W (hS.later hW), fun W hW => refWeights_out a ss.length c (by omega) k hk W, fun W hW => biases_out _ b ss (by omega) k (by omega) W (hS.later hW), fun W hW => refBiases_out a ss.length c (by omega) k hk W⟩
        obtain ⟨x0, x1, y0, y1, hW1, hW2, hW3, hW4⟩ := HALL
        have H1 := Lib.hid (hW1 w2 (Below.refl _ _))
        have H2 := Lib.hid hW2
        have H3 := Lib.hid hW3
        have H4 := Lib.hid hW4
        have HS2 := Lib.hid hS
        have hnx := fun W => neq_range x0 x1 W
        have hny := fun W => neq_range y0 y1 W
        clear hW1 hW2 hW3 hW4 b2 hS hI2 B1
        go_wp2_with fail
        refine H1.out.mono ?_
        rintro e w3 ⟨rfl, b3⟩
        have G2 := Lib.hid (H2.out w3 b3)
        have D3 := Lib.hid b3
        clear H1 H2 b3
        go_wp2_with fail
        refine G2.out.mono ?_
        rintro e w4 ⟨rfl, b4⟩
        have D4 := Lib.hid (D3.out.trans (b4.mono D3.out.size))
        have G3 := Lib.hid (H3.out w4 D4.out)
        clear G2 D3 b4 H3
        go_wp2_with fail
        refine G3.out.mono ?_
        rintro e w5 ⟨rfl, b5⟩
        have D5 := Lib.hid (D4.out.trans (b5.mono D4.out.size))
        have G4 := Lib.hid (H4.out w5 D5.out)
        clear G3 D4 b5 H4
        go_wp2_with fail
        refine G4.out.mono ?_
        rintro e w6 ⟨rfl, b6⟩
        have D6 := D5.out.trans (b6.mono D5.out.size)
        have HS6 := Lib.hid (HS2.out.later D6)
        have B6 := Lib.hid (B2.out.trans (D6.mono B2.out.size))
        clear G4 D5 b6 D6 HS2 B2 hnx
        obtain ⟨l, hl⟩ : ∃ l, l = ss.length - 1 := ⟨_, rfl⟩
        have HLL := Lib.hid hl
        have wl : IntKind.i64.wrap ((ss.length : Int) - 1) = (l : Int) := (IntWalk.i64_in _ (by omega)).trans (by omega)
        have wl2 : (ss.length : Int) - 1 = (l : Int) := by omega
        have hl15 : l ≤ 15 := by omega
        clear hl
        go_wp2_with fail
        clear hny wl wl2
        go_loopw [7, 8, 42] (fun v _ i wr => ∃ j : Nat, j ≤ l ∧ i = .int .i64 j ∧ wr.ownsRow w6.heap.size 35 2 v (2 * j) (rcells (rangesL ss j)) ∧ Below w6.heap.size w6 wr) (fun _ _ i _ => l - (intOf i).toNat)
        case atStart => exact ⟨0, Nat.zero_le _, rfl, World.ownsRow_nil _ _ _ _, Below.refl _ _⟩
        case round =>
          obtain ⟨j, hj, rfl, hrow, hB⟩ := hrel
          by_cases hlt : j < l
          · have hdec : decide ((j : Int) < (l : Int)) = true := by simp; omega
            have wk : IntKind.i64.wrap ((j : Int) + 1) = j + 1 := IntWalk.i64_in _ (by omega)
            have hk1 : j + 1 < ss.length := by have := HLL.out; omega
            have HW := weights_in _ b ss hR j hk1 wr (HS6.out.later hB)
            have HBi := Lib.hid (fun W (hb : Below wr.heap.size wr W) => biases_in _ b ss hR j hk1 W ((HS6.out.later hB).later hb))
            have HROW := Lib.hid hrow
            have HB := Lib.hid hB
            clear hrow hB
            go_wp2_with fail
            refine HW.mono ?_
            rintro e v2 ⟨rfl, b2⟩
            have HB2 := HBi.out v2 b2
            have HROW2 := Lib.hid (own_below HROW.out b2)
            have B2 := Lib.hid (HB.out.trans (b2.mono HB.out.size))
            clear HW HBi HROW HB b2
            go_wp2_with fail
            refine HB2.mono ?_
            rintro e v3 ⟨rfl, b3⟩
            have hrow3 := own_below HROW2.out b3
            have B3 := Lib.hid (B2.out.trans (b3.mono B2.out.size))
            have HE : Hid (rangesL ss (j + 1) = rangesL ss j ++ [wR ss j, bR ss j]) := Lib.hid rfl
            obtain ⟨⟨p0, p1⟩, hp⟩ : ∃ p, p = wR ss j := ⟨_, rfl⟩
            obtain ⟨⟨p2, p3⟩, hp'⟩ : ∃ p, p = bR ss j := ⟨_, rfl⟩
            rw [← hp, ← hp'] at HE ⊢
            dsimp only
            clear HB2 HROW2 B2 b3 hp hp'
            have c4 := (Below.refl v3.heap.size v3).alloc (Nat.le_refl _) (.cells #[.int .i64 p0, .int .i64 p1, .int .i64 p2, .int .i64 p3] 35)
            have HROW4 := Lib.hid (own_below hrow3 c4)
            have B4 := Lib.hid (B3.out.trans (c4.mono B3.out.size))
            have HNN := Lib.hid (cell_new v3 #[.int .i64 p0, .int .i64 p1, .int .i64 p2, .int .i64 p3] 35)
            clear hrow3 B3 c4
            go_wp2_with (at_builtin; refine append_list (base := w6.heap.size) (n := 2 * j) (m := 2) (u := .slice (some ⟨v3.heap.size, 0, none⟩) 2 2) (ys := [.int .i64 p0, .int .i64 p1, .int .i64 p2, .int .i64 p3]) elemPR rfl _ _ rfl rfl rfl HROW4.out rfl (.inr ⟨_, _, rfl, fun j y hy => by rw [Go.WideShapes.add_plain, Nat.zero_add, HNN.out]; simpa using hy⟩) (by simp [Value.oneCell']) (by unfold maxLen; omega) (by omega) B4.out.size ?_; intro v' w5 h5 g5; have O5 := Lib.hid h5; have G5 := Lib.hid g5; clear h5 g5)
            have B5 := Lib.hid (below_appended B4.out HROW4.out G5.out (Nat.le_refl _) B4.out.size)
            go_roundw
            case rel => exact ⟨j + 1, by omega, by go_num, by rw [HE.out, rcells_append]; exact O5.out, B5.out⟩
            case measure => simp [intOf]; omega
          · have hdec : decide ((j : Int) < (l : Int)) = false := by simp; omega
            have hjl : j = ss.length - 1 := by have := HLL.out; omega
            obtain ⟨ra, rc, rfl⟩ := own_value hrow
            have hRA : RangesAt wr.heap.size wr (.slice ra (2 * j) rc) (rangesL ss (ss.length - 1)) := by
              unfold RangesAt
              rw [rangesL_length, ← hjl]
              exact SliceAt.of_owns hrow
            have HRA := Lib.hid hRA
            have HS7 := Lib.hid (HS6.out.later hB)
            have B7 := Lib.hid (B6.out.trans (hB.mono B6.out.size))
            clear hrow hB hRA HS6 B6 hjl
            go_wp2_with fail
            refine (alive08_any wr).mono ?_
            rintro e v2 ⟨rfl, b2⟩
            have HS8 := Lib.hid (HS7.out.later b2)
            have B8 := Lib.hid (B7.out.trans (b2.mono B7.out.size))
            have HRA8 := Lib.hid (HRA.out.later b2)
            have HC1 := Lib.hid (count_shape _ b ss (by omega) v2 HS8.out)
            clear HS7 B7 HRA b2
            go_wp2_with fail
            refine HC1.out.mono ?_
            rintro e v3 ⟨rfl, b3⟩
            have HS9 := Lib.hid (HS8.out.later b3)
            have B9 := Lib.hid (B8.out.trans (b3.mono B8.out.size))
            have HCV := Lib.hid (covers_any (stTo ss (ss.length - 1)) _ (rangesL ss (ss.length - 1)) (by rw [rangesL_length]; omega) v3 (HRA8.out.later b3))
            rw [chain_ranges hR (ss.length - 1) (by omega)] at HCV
            clear HS8 B8 HRA8 b3 HC1
            go_wp2_with fail
            refine HCV.out.mono ?_
            rintro e v4 ⟨rfl, b4⟩
            have HS10 := Lib.hid (HS9.out.later b4)
            have B10 := Lib.hid (B9.out.trans (b4.mono B9.out.size))
            have HC2 := Lib.hid (count_shape _ b ss (by omega) v4 HS10.out)
            clear HS9 B9 b4 HCV
            go_wp2_with fail
            refine HC2.out.mono ?_
            rintro e v5 ⟨rfl, b5⟩
            have B11 := Lib.hid (B10.out.trans (b5.mono B10.out.size))
            have HRC := Lib.hid (refCount_any (.slice a ss.length c) ss h2 h16 hR.good v5 (IntsW.pos ((HV.out.below B11.out).grow B11.out.size) (by omega)))
            clear HS10 B10 b5 HC2
            go_wp2_with fail
            refine HRC.out.mono ?_
            rintro e v6 ⟨rfl, b6⟩
            have B12 := Lib.hid (B11.out.trans (b6.mono B11.out.size))
            clear B11 b6 HRC
            go_wp2_with fail
            go_ret
            exact ⟨by first | rfl | simp, B12.out⟩
      · exact absurd h0 hne
    · have hb2 : (cd != 0) = true := by simpa using hc0
      clear hcd
      go_enter Tryd.func4, Tryd.ntmps4
      go_wp2_with fail
      refine HCK.out.mono ?_
      rintro e w1 ⟨rfl, b1⟩
      have B1 := Lib.hid b1
      clear HCK b1
      go_wp2_with fail
      refine (alive08_any w1).mono ?_
      rintro e w2 ⟨rfl, b2⟩
      have B2 := Lib.hid (B1.out.trans (b2.mono B1.out.size))
      clear B1 b2
      go_wp2_with fail
      go_ret
      exact ⟨rfl, B2.out⟩
  · have g1 : decide ((40 : Int) < (ss.length : Int)) = true := by simp; omega
    clear HCK
    go_enter Tryd.func4, Tryd.ntmps4
    go_wp2_with fail
    refine (alive08_any w).mono ?_
    rintro e w1 ⟨rfl, b1⟩
    have B1 := Lib.hid b1
    clear b1
    go_wp2_with fail
    go_ret
    exact ⟨rfl, B1.out⟩
end Go.Proofs.YtdnaildhcnekfaaDoor
