/- Layer 12: the reference's New. -/
import Derived.Test.YtgkiloidjeahbaaSmpG
namespace Go.Proofs.Ytgkiloidjeahbaa
open Go.RowKit
set_option linter.unusedVariables false
theorem refEpochs_any (n size steps len : Nat) (h : OkS n size steps len ∨ (1 ≤ size ∧ size ≤ n ∧ n ≤ 1048576 ∧ steps ≤ 1048576)) (w : World) :
    Calls Try.prog 24 #[.int .i64 n, .int .i64 size, .int .i64 steps] w fun e w' => e = .returned (.int .i64 (cntN n size steps)) ∧ Below w.heap.size w w' := by
  obtain ⟨h1, h2, h3, h4⟩ : 1 ≤ size ∧ size ≤ n ∧ n ≤ 1048576 ∧ steps ≤ 1048576 := by
    rcases h with h | h
    · exact ⟨h.s1, h.sn, h.n20, h.st⟩
    · exact h
  have he : 1 ≤ n / size := (Nat.le_div_iff_mul_le (by omega)).2 (by omega)
  have hq : n / size ≤ n := Nat.div_le_self _ _
  have hcn : (cntN n size steps : Int) = cntB (steps : Int) ((n / size : Nat) : Int) := Int.toNat_of_nonneg (cntB_range _ _).1
  have HL := Lib.hid (fun i => cntS_lt steps (n / size) i he)
  rw [← hcn] at HL
  have hcb : cntN n size steps ≤ 1048576 := by
    have := cntB_range (steps : Int) ((n / size : Nat) : Int)
    rw [← hcn] at this
    omega
  have td : Int.tdiv (n : Int) (size : Int) = ((n / size : Nat) : Int) := by rw [Int.tdiv_eq_ediv_of_nonneg (by omega)]; exact (Int.natCast_ediv _ _).symm
  have B0 := Lib.hid (Below.refl w.heap.size w)
  clear h hcn
  generalize cntN n size steps = E at *
  generalize n / size = each at *
  go_enter Try.func24, Try.ntmps24
  go_wp2_with fail
  go_loopw [7, 8] (fun ev tv wr => ∃ k tt : Nat, k ≤ E ∧ tt = k * each ∧ ev = .int .i64 k ∧ tv = .int .i64 tt ∧ Hid (Below w.heap.size w wr)) (fun ev _ _ => E - (intOf ev).toNat)
  case atStart => exact ⟨0, 0, Nat.zero_le _, by rw [Nat.zero_mul], rfl, rfl, B0⟩
  case round =>
    obtain ⟨k, tt, hk, ht, rfl, rfl, HB⟩ := hrel
    have hl := HL.out k
    rw [← ht] at hl
    have HT := Lib.hid ht
    clear ht
    by_cases hlt : tt < steps
    · have hke := hl.2 hlt
      clear hl
      go_wp2_with fail
      go_roundw
      case rel => exact ⟨k + 1, tt + each, by omega, by rw [HT.out, Nat.succ_mul], by go_num, by go_num, HB⟩
      case measure => simp [intOf]; omega
    · have hkE : k = E := by
        have : ¬ ((k : Int) < E) := fun h => hlt (hl.1 h)
        omega
      subst hkE
      clear hl
      go_wp2_with fail
      go_ret
      exact ⟨rfl, HB.out⟩
/-- four cells of a block -/
structure Four (B : Nat) (w : World) (x0 x1 x2 x3 : Value) : Prop where
  c0 : w.cell? ⟨B, 0, none⟩ = some x0
  c1 : w.cell? ⟨B, 1, none⟩ = some x1
  c2 : w.cell? ⟨B, 2, none⟩ = some x2
  c3 : w.cell? ⟨B, 3, none⟩ = some x3
  f0 : w.frozen? ⟨B, 0, none⟩ = false
  f1 : w.frozen? ⟨B, 1, none⟩ = false
  f2 : w.frozen? ⟨B, 2, none⟩ = false
  f3 : w.frozen? ⟨B, 3, none⟩ = false
theorem Four.new (w : World) (x0 x1 x2 x3 : Value) (e : TypeId) : Four w.heap.size (w.alloc (.cells #[x0, x1, x2, x3] e)) x0 x1 x2 x3 :=
  ⟨(cells_four w x0 x1 x2 x3 e).1, (cells_four w x0 x1 x2 x3 e).2.1, (cells_four w x0 x1 x2 x3 e).2.2.1, (cells_four w x0 x1 x2 x3 e).2.2.2, World.frozen?_alloc_new w _ e 0, World.frozen?_alloc_new w _ e 1, World.frozen?_alloc_new w _ e 2, World.frozen?_alloc_new w _ e 3⟩
theorem Four.lt {B : Nat} {w : World} {x0 x1 x2 x3 : Value} (h : Four B w x0 x1 x2 x3) : B < w.heap.size := World.block_lt_of_cell? _ _ h.c0
theorem Four.kept {B : Nat} {w w' : World} {x0 x1 x2 x3 : Value} {row : Option Nat} (h : Four B w x0 x1 x2 x3) (hg : w.grownBy w' row) (hr : row ≠ some B) : Four B w' x0 x1 x2 x3 := by
  have hb := hg.block B h.lt (fun e => hr e.symm)
  have hc : ∀ o, w'.cell? ⟨B, o, none⟩ = w.cell? ⟨B, o, none⟩ := fun o => by simp only [World.cell?, hb]
  have hf : ∀ o, w'.frozen? ⟨B, o, none⟩ = w.frozen? ⟨B, o, none⟩ := fun o => by simp only [World.frozen?, hb]
  exact ⟨(hc 0).trans h.c0, (hc 1).trans h.c1, (hc 2).trans h.c2, (hc 3).trans h.c3, (hf 0).trans h.f0, (hf 1).trans h.f1, (hf 2).trans h.f2, (hf 3).trans h.f3⟩
theorem Four.later {B : Nat} {w w' : World} {x0 x1 x2 x3 : Value} (h : Four B w x0 x1 x2 x3) (hb : Below w.heap.size w w') : Four B w' x0 x1 x2 x3 := h.kept (grown_below hb none) (by simp)
/-- all four written -/
def put4 (w : World) (B : Nat) (v0 v1 v2 v3 : Value) : World := (((w.setCell ⟨B, 0, none⟩ v0).setCell ⟨B, 1, none⟩ v1).setCell ⟨B, 2, none⟩ v2).setCell ⟨B, 3, none⟩ v3
theorem put4_grown (w : World) (B : Nat) (v0 v1 v2 v3 : Value) : w.grownBy (put4 w B v0 v1 v2 v3) (some B) :=
  grown_trans (grown_trans (grown_trans (grown_set w B 0 v0) (grown_set _ B 1 v1)) (grown_set _ B 2 v2)) (grown_set _ B 3 v3)
theorem Four.put {B : Nat} {w : World} {x0 x1 x2 x3 : Value} (h : Four B w x0 x1 x2 x3) (v0 v1 v2 v3 : Value) : Four B (put4 w B v0 v1 v2 v3) v0 v1 v2 v3 := by
  have o : ∀ (W : World) (i j : Nat) (y : Value), i ≠ j → (W.setCell ⟨B, i, none⟩ y).cell? ⟨B, j, none⟩ = W.cell? ⟨B, j, none⟩ := fun W i j y hij => World.cell?_setCell_other W _ _ _ (by intro e; cases e; exact hij rfl)
  have s : ∀ (W : World) (i : Nat) (y u : Value), W.cell? ⟨B, i, none⟩ = some u → (W.setCell ⟨B, i, none⟩ y).cell? ⟨B, i, none⟩ = some y := fun W i y u hu => World.cell?_setCell_same W _ _ hu
  unfold put4
  refine ⟨?_, ?_, ?_, ?_, ?_, ?_, ?_, ?_⟩
  · rw [o _ 3 0 _ (by omega), o _ 2 0 _ (by omega), o _ 1 0 _ (by omega)]; exact s _ 0 _ _ h.c0
  · rw [o _ 3 1 _ (by omega), o _ 2 1 _ (by omega)]; exact s _ 1 _ x1 (by rw [o _ 0 1 _ (by omega)]; exact h.c1)
  · rw [o _ 3 2 _ (by omega)]; exact s _ 2 _ x2 (by rw [o _ 1 2 _ (by omega), o _ 0 2 _ (by omega)]; exact h.c2)
  · exact s _ 3 _ x3 (by rw [o _ 2 3 _ (by omega), o _ 1 3 _ (by omega), o _ 0 3 _ (by omega)]; exact h.c3)
  · simp only [World.frozen?_setCell]; exact h.f0
  · simp only [World.frozen?_setCell]; exact h.f1
  · simp only [World.frozen?_setCell]; exact h.f2
  · simp only [World.frozen?_setCell]; exact h.f3
def RefNoSamp (c : Int) (w : World) (e : Ending) (w' : World) : Prop := e = .returned (.tuple #[.agg #[.int .i64 0, .int .i64 0, .int .i64 0, .slice none 0 0], .int .i64 c]) ∧ Below w.heap.size w w'
set_option maxHeartbeats 1000000 in
theorem RefNew_no (n size steps : Int) (hn : n ≤ 1048576) (hs : steps ≤ 1048576) (v : Value) (zs : List Int) (w : World) (hv : IntsW .u64 w.heap.size w v zs) (hc : codeS n size steps zs.length ≠ 0) :
    Calls Try.prog 9 #[.int .i64 n, .int .i64 size, .int .i64 steps, v] w (RefNoSamp (codeS n size steps zs.length) w) := by
  obtain ⟨a, c, rfl⟩ := hv.value
  have AL := Lib.hid ((Below.refl w.heap.size w).alloc (Nat.le_refl _) (.cells #[.int .i64 0, .int .i64 0, .int .i64 0, .slice none 0 0] 33))
  clear hv
  by_cases h1 : n < 1
  ·
    have H := Lib.hid (show codeS n size steps zs.length = 2 from if_pos (.inl h1))
    have g1 : decide (n < 1) = true := by simpa using h1
    clear hc
    go_enter Try.func9, Try.ntmps9
    go_wp2_with fail
    (try simp only [Exit.inBlock, Exit.then])
    refine bodyPost_ret (v := .tuple #[.agg #[.int .i64 0, .int .i64 0, .int .i64 0, .slice none 0 0], .int .i64 2]) (by simp [results, Try.results9, go_sem]) rfl ?_
    rw [H.out]
    exact ⟨rfl, AL.out⟩
  · have g1 : decide (n < 1) = false := by simpa using h1
    have g2 : decide (1048576 < n) = false := by simp; omega
    by_cases h2 : steps < 0
    ·
      have H := Lib.hid (show codeS n size steps zs.length = 2 from if_pos (.inr (.inr (.inl h2))))
      have g3 : decide (steps < 0) = true := by simpa using h2
      clear hc
      go_enter Try.func9, Try.ntmps9
      go_wp2_with fail
      (try simp only [Exit.inBlock, Exit.then])
      refine bodyPost_ret (v := .tuple #[.agg #[.int .i64 0, .int .i64 0, .int .i64 0, .slice none 0 0], .int .i64 2]) (by simp [results, Try.results9, go_sem]) rfl ?_
      rw [H.out]
      exact ⟨rfl, AL.out⟩
    · have g3 : decide (steps < 0) = false := by simpa using h2
      have g4 : decide (1048576 < steps) = false := by simp; omega
      have e1 : codeS n size steps zs.length = if size < 1 ∨ n < size then 7 else if (zs.length : Int) < cntB steps (n / size) * needZ n then 8 else 0 := if_neg (by omega)
      by_cases h3 : size < 1
      ·
        have H := Lib.hid (show codeS n size steps zs.length = 7 by rw [e1, if_pos (.inl h3)])
        have g5 : decide (size < 1) = true := by simpa using h3
        clear hc e1
        go_enter Try.func9, Try.ntmps9
        go_wp2_with fail
        (try simp only [Exit.inBlock, Exit.then])
        refine bodyPost_ret (v := .tuple #[.agg #[.int .i64 0, .int .i64 0, .int .i64 0, .slice none 0 0], .int .i64 7]) (by simp [results, Try.results9, go_sem]) rfl ?_
        rw [H.out]
        exact ⟨rfl, AL.out⟩
      · have g5 : decide (size < 1) = false := by simpa using h3
        by_cases h4 : n < size
        ·
          have H := Lib.hid (show codeS n size steps zs.length = 7 by rw [e1, if_pos (.inr h4)])
          have g6 : decide (n < size) = true := by simpa using h4
          clear hc e1
          go_enter Try.func9, Try.ntmps9
          go_wp2_with fail
          (try simp only [Exit.inBlock, Exit.then])
          refine bodyPost_ret (v := .tuple #[.agg #[.int .i64 0, .int .i64 0, .int .i64 0, .slice none 0 0], .int .i64 7]) (by simp [results, Try.results9, go_sem]) rfl ?_
          rw [H.out]
          exact ⟨rfl, AL.out⟩
        · have g6 : decide (n < size) = false := by simpa using h4
          have e2 : codeS n size steps zs.length = if (zs.length : Int) < cntB steps (n / size) * needZ n then 8 else 0 := by rw [e1, if_neg (by omega)]
          by_cases h5 : (zs.length : Int) < cntB steps (n / size) * needZ n
          · have H := Lib.hid (show codeS n size steps zs.length = 8 by rw [e2, if_pos h5])
            clear hc e1 e2
            obtain ⟨n, rfl⟩ := Int.eq_ofNat_of_zero_le (show 0 ≤ n by omega)
            obtain ⟨size, rfl⟩ := Int.eq_ofNat_of_zero_le (show 0 ≤ size by omega)
            obtain ⟨steps, rfl⟩ := Int.eq_ofNat_of_zero_le (show 0 ≤ steps by omega)
            have HC := Lib.hid (fun W => refEpochs_any n size steps zs.length (.inr ⟨by omega, by omega, by omega, by omega⟩) W)
            have HN := Lib.hid (fun W => refNeed_any (n : Int) (by omega) W)
            have hcn : (cntN n size steps : Int) = cntB (steps : Int) ((n : Int) / (size : Int)) := by rw [← Int.natCast_ediv]; exact Int.toNat_of_nonneg (cntB_range _ _).1
            rw [← hcn] at h5
            have hcb : cntN n size steps ≤ 1048576 := by
              have := cntB_range (steps : Int) ((n : Int) / (size : Int))
              rw [← hcn] at this
              omega
            have n0 : 0 ≤ needZ n ∧ needZ n ≤ 1048576 := by unfold needZ; split <;> omega
            have m0 := Int.mul_nonneg (show (0 : Int) ≤ (cntN n size steps : Int) by omega) n0.1
            have m1 : (cntN n size steps : Int) * needZ n ≤ 1048576 * 1048576 := Int.mul_le_mul (by omega) n0.2 n0.1 (by omega)
            have hmul : IntKind.i64.wrap ((cntN n size steps : Int) * needZ n) = (cntN n size steps : Int) * needZ n := IntWalk.i64_in _ (by omega)
            have g7 : decide ((zs.length : Int) < (cntN n size steps : Int) * needZ n) = true := by simpa using h5
            have F0 := Four.new w (.int .i64 0) (.int .i64 0) (.int .i64 0) (.slice none 0 0) 33
            have al2 := (Below.refl (w.alloc (.cells #[.int .i64 0, .int .i64 0, .int .i64 0, .slice none 0 0] 33)).heap.size (w.alloc (.cells #[.int .i64 0, .int .i64 0, .int .i64 0, .slice none 0 0] 33))).alloc (Nat.le_refl _) (.cells #[.int .i64 n, .int .i64 size, .int .i64 steps, .slice none 0 0] 33)
            have F1 := Lib.hid (F0.later al2)
            have AL2 := Lib.hid (below_step AL.out al2)
            clear F0 al2 hcn m0 m1
            generalize cntN n size steps = E at *
            generalize needZ n = z at *
            go_enter Try.func9, Try.ntmps9
            go_wp2_with fail
            refine (HC.out _).mono ?_
            rintro e w1 ⟨rfl, b1⟩
            have F2 := F1.out.later b1
            have B2 := Lib.hid (below_step AL2.out b1)
            obtain ⟨c0, c1, c2, c3, f0, f1, f2, f3⟩ := id F2
            have P := Lib.hid (F2.put (.int .i64 0) (.int .i64 0) (.int .i64 0) (.slice none 0 0))
            have BP := Lib.hid (B2.out.grown (put4_grown w1 w.heap.size (.int .i64 0) (.int .i64 0) (.int .i64 0) (.slice none 0 0)) B2.out.size (fun q e => by cases e; exact Nat.le_refl _))
            unfold put4 at P BP
            clear b1 F1 F2 AL2 HC
            go_wp2_with fail
            refine (HN.out _).mono ?_
            rintro e w3 ⟨rfl, rfl⟩
            go_wp2_with fail
            (try simp only [Exit.inBlock, Exit.then])
            have D0 := P.out.c0
            have D1 := P.out.c1
            have D2 := P.out.c2
            have D3 := P.out.c3
            refine bodyPost_ret (v := .tuple #[.agg #[.int .i64 0, .int .i64 0, .int .i64 0, .slice none 0 0], .int .i64 8]) (by simp [results, Try.results9, D0, D1, D2, D3, go_sem]) rfl ?_
            rw [H.out]
            exact ⟨rfl, BP.out⟩
          · exact absurd (by rw [e2, if_neg h5]) hc
def RefNewSamp (n size steps : Nat) (ords : List (List Int)) (w : World) (e : Ending) (w' : World) : Prop :=
  ∃ v, e = .returned (.tuple #[.agg #[.int .i64 n, .int .i64 size, .int .i64 steps, v], .int .i64 0]) ∧ ListsAt w.heap.size w' v ords ∧ Below w.heap.size w w'
def RefOrd (v : Value) (zs : List Int) (kd kd2 n k d : Nat) (w : World) (e : Ending) (w' : World) : Prop :=
  ∃ u, e = .returned (.tuple #[.agg #[v, .int .i64 kd2], u, .bool true]) ∧ w'.ownsRow w.heap.size 3 1 u n ((shufL zs kd n).map (Value.int .i64)) ∧ Below w.heap.size w w'
set_option maxHeartbeats 4000000 in
theorem RefNew_yes (n size steps : Nat) (v : Value) (zs : List Int) (hz : ∀ z ∈ zs, 0 ≤ z ∧ z < 18446744073709551616) (hm : zs.length ≤ 1048576) (hok : OkS n size steps zs.length) (w : World) (hv : IntsW .u64 w.heap.size w v zs) :
    Calls Try.prog 9 #[.int .i64 n, .int .i64 size, .int .i64 steps, v] w (RefNewSamp n size steps (ordTo zs n (cntN n size steps)) w) := by
  have HV := Lib.hid hv
  obtain ⟨a, c, rfl⟩ := hv.value
  have h1 := hok.s1
  have h2 := hok.sn
  have h3 := hok.n20
  have h4 := hok.st
  have g1 : decide ((n : Int) < 1) = false := by simp; omega
  have g2 : decide (1048576 < (n : Int)) = false := by simp; omega
  have g3 : decide ((steps : Int) < 0) = false := by simp
  have g4 : decide (1048576 < (steps : Int)) = false := by simp; omega
  have g5 : decide ((size : Int) < 1) = false := by simp; omega
  have g6 : decide ((n : Int) < size) = false := by simp; omega
  have HC := Lib.hid (fun W => refEpochs_any n size steps zs.length (.inl hok) W)
  have HN := Lib.hid (fun W => refNeed_any (n : Int) (by omega) W)
  have e1 : needZ (n : Int) = ((n - 1 : Nat) : Int) := by unfold needZ; rw [if_neg (by omega)]; omega
  rw [e1] at HN
  have hlen := hok.len
  have HKS := Lib.hid (fun k hk => hok.okS (k := k) hk)
  have hmul : IntKind.i64.wrap ((cntN n size steps : Int) * ((n - 1 : Nat) : Int)) = ((cntN n size steps * (n - 1) : Nat) : Int) := by rw [Int.natCast_mul]; exact IntWalk.i64_in _ (by rw [← Int.natCast_mul]; omega)
  have hcb : cntN n size steps ≤ 1048576 := by
    have := cntB_range (steps : Int) ((n / size : Nat) : Int)
    rw [← hok.cnt] at this
    omega
  have g7 : decide ((zs.length : Int) < ((cntN n size steps * (n - 1) : Nat) : Int)) = false := by simp only [decide_eq_false_iff_not]; omega
  have g8 : decide (zs.length < cntN n size steps * (n - 1)) = false := by simp only [decide_eq_false_iff_not]; omega
  have HSH : Hid (∀ kd W, okS zs kd n = true → IntsW .u64 W.heap.size W (.slice a zs.length c) zs → Calls Try.prog 26 #[.int .i64 n, .agg #[.slice a zs.length c, .int .i64 kd]] W (RefOrd (.slice a zs.length c) zs kd (kd + (n - 1)) n 0 0 W)) := Lib.hid (fun kd W ho hw => by
    have hk : kd ≤ zs.length := by
      unfold okS at ho
      simp only [Bool.and_eq_true, decide_eq_true_eq] at ho
      have : 0 ≤ needZ n := by unfold needZ; split <;> omega
      omega
    have h := refShuffle_any (.slice a zs.length c) zs hz kd hk hm (n : Int) (by omega) W hw
    unfold RefShuffled at h
    rw [ho] at h
    exact h)
  have AL := (Below.refl w.heap.size w).alloc (Nat.le_refl _) (.cells #[.int .i64 0, .int .i64 0, .int .i64 0, .slice none 0 0] 33)
  have F0 := Four.new w (.int .i64 0) (.int .i64 0) (.int .i64 0) (.slice none 0 0) 33
  have al2 := (Below.refl (w.alloc (.cells #[.int .i64 0, .int .i64 0, .int .i64 0, .slice none 0 0] 33)).heap.size (w.alloc (.cells #[.int .i64 0, .int .i64 0, .int .i64 0, .slice none 0 0] 33))).alloc (Nat.le_refl _) (.cells #[.int .i64 n, .int .i64 size, .int .i64 steps, .slice none 0 0] 33)
  have G0 := Four.new (w.alloc (.cells #[.int .i64 0, .int .i64 0, .int .i64 0, .slice none 0 0] 33)) (.int .i64 n) (.int .i64 size) (.int .i64 steps) (.slice none 0 0) 33
  rw [World.size_alloc] at G0
  have G1 := Lib.hid G0
  have F1 := Lib.hid (F0.later al2)
  have AL2 := Lib.hid (below_step AL al2)
  clear hv hok e1 F0 al2 G0 AL
  generalize cntN n size steps * (n - 1) = p at *
  generalize hD : n - 1 = d at *
  have HD := Lib.hid hD
  clear hD
  generalize cntN n size steps = E at *
  go_enter Try.func9, Try.ntmps9
  go_wp2_with fail
  refine (HC.out _).mono ?_
  rintro e w1 ⟨rfl, b1⟩
  have F2 := Lib.hid (F1.out.later b1)
  have G2 := Lib.hid (G1.out.later b1)
  have B2 := Lib.hid (below_step AL2.out b1)
  have hN1 := G2.out.lt
  clear b1 F1 G1 AL2 HC
  go_wp2_with fail
  refine (HN.out _).mono ?_
  rintro e w3 ⟨rfl, rfl⟩
  clear HN
  have q := cells_two w1 (.slice a zs.length c) (.int .i64 0) 63
  have fq := World.frozen?_alloc_new w1 #[.slice a zs.length c, .int .i64 0] 63
  have al := (Below.refl w1.heap.size w1).alloc (Nat.le_refl _) (.cells #[.slice a zs.length c, .int .i64 0] 63)
  have F3 := Lib.hid (F2.out.later al)
  have G3 := Lib.hid (G2.out.later al)
  have B3 := Lib.hid (B2.out.trans (al.mono B2.out.size))
  have Q := Lib.hid (And.intro q.1 (And.intro q.2 (And.intro (fq 0) (fq 1))))
  have hX : w1.heap.size < (w1.alloc (.cells #[.slice a zs.length c, .int .i64 0] 63)).heap.size := by simp
  clear q fq al F2 G2 B2
  go_upto_region 10 with fail
  generalize hNN : w.heap.size = N at *
  generalize (w1.alloc (.cells #[.slice a zs.length c, .int .i64 0] 63)) = W4 at *
  generalize w1.heap.size = X at *
  have L4 := Lib.hid (ListsAt.nil (X + 1) W4)
  clear g1 g2 g3 g4 g5 g6 g7 g8 hmul
  go_wp2_with fail
  go_loopw [13, 14, 15, 16] (fun iv _ _ _ wr => ∃ k : Nat, ∃ vo : Value, k ≤ E ∧ iv = .int .i64 k ∧ Hid (Four N wr (.int .i64 0) (.int .i64 0) (.int .i64 0) (.slice none 0 0)) ∧ Hid (Four (N + 1) wr (.int .i64 n) (.int .i64 size) (.int .i64 steps) vo) ∧ Hid (ListsAt (X + 1) wr vo (ordTo zs n k)) ∧ Hid (wr.cell? ⟨X, 0, none⟩ = some (.slice a zs.length c) ∧ wr.cell? ⟨X, 1, none⟩ = some (.int .i64 ((k * d : Nat) : Int)) ∧ wr.frozen? ⟨X, 0, none⟩ = false ∧ wr.frozen? ⟨X, 1, none⟩ = false) ∧ Hid (Below N w wr) ∧ X < wr.heap.size) (fun iv _ _ _ _ => E - (intOf iv).toNat)
  case atStart => exact ⟨0, _, Nat.zero_le _, rfl, F3, G3, L4, by rw [Nat.zero_mul]; exact Q, B3, hX⟩
  case round =>
    clear F3 G3 L4 Q B3 hX
    obtain ⟨k, vo, hk, rfl, HF, HG, HL, HQ, HB, hX⟩ := hrel
    by_cases hlt : k < E
    · obtain ⟨o1, o2, o3⟩ := HKS.out k hlt
      obtain ⟨q0, q1, qf0, qf1⟩ := HQ.out
      have HOR := Lib.hid (HSH.out (k * d) wr o1 ((HV.out.below HB.out).grow (by have := HB.out.size; omega)))
      unfold RefOrd at HOR
      rw [o2] at HOR
      obtain ⟨us, u1, u2, u3⟩ := HL.out
      rw [ordTo_length] at u1 u2 u3
      obtain ⟨ao, co, rfl⟩ := own_value u2
      have U1 := Lib.hid u1
      have U2 := Lib.hid u2
      have U3 := Lib.hid u3
      have OS := Lib.hid (ordTo_succ zs n k)
      have HM := Lib.hid (shufL_length zs (k * d) n)
      have HDE := HD.out
      rw [HDE] at OS
      have hk2 : (k + 1) * d ≤ 1048576 := by omega
      have hNX := HG.out.lt
      clear HL HQ o1 o2 o3 u1 u2 u3 HDE
      generalize shufL zs (k * d) n = sl at *
      generalize hkd2 : (k + 1) * d = kd2 at *
      have HKD2 := Lib.hid hkd2
      clear hkd2
      generalize k * d = kd at *
      go_upto_region 13 with fail
      go_wp2_with fail
      refine HOR.out.mono ?_
      rintro e w5 ⟨u5, rfl, o5, b5⟩
      obtain ⟨au, cu, rfl⟩ := own_value o5
      have hsz5 := b5.size
      have al5 := (Below.refl w5.heap.size w5).alloc (Nat.le_refl _) (.cells #[.slice a zs.length c, .int .i64 kd2] 63)
      have b6 := below_step b5 al5
      have HF6 := Lib.hid (HF.out.later b6)
      have HG6 := Lib.hid (HG.out.later b6)
      have U26 := Lib.hid (own_below U2.out b6)
      have U36 := Lib.hid (fun t (ht : t < k) => own_below (U3.out t ht) b6)
      have O6 := Lib.hid (own_below o5 al5)
      have HB6 := Lib.hid (HB.out.trans (b6.mono (by have := HB.out.size; omega)))
      have r01 := cells_two w5 (.slice a zs.length c) (.int .i64 kd2) 63
      have q0 := cell_step b6 q0
      have q1 := cell_step b6 q1
      have qf0 := (b6.frozen (p := ⟨X, 0, none⟩) hX).trans qf0
      have qf1 := (b6.frozen (p := ⟨X, 1, none⟩) hX).trans qf1
      have hU : w5.heap.size < (w5.alloc (.cells #[.slice a zs.length c, .int .i64 kd2] 63)).heap.size := by simp
      go_upto_region 14 with fail
      obtain ⟨r0, r1⟩ := r01
      clear HF HG U2 U3 o5 b5 al5 b6 HOR HB
      generalize (w5.alloc (.cells #[.slice a zs.length c, .int .i64 kd2] 63)) = W6 at *
      generalize w5.heap.size = U at *
      have hXU : X < U := by omega
      have ST := stored2 (.slice a zs.length c) (.int .i64 kd2) q0 q1 qf0 qf1
      have gX := grown_trans (grown_set W6 X 0 (.slice a zs.length c)) (grown_set _ X 1 (.int .i64 kd2))
      have HF7 := Lib.hid (HF6.out.kept gX (by simp; omega))
      have HG7 := Lib.hid (HG6.out.kept gX (by simp; omega))
      have U27 := Lib.hid (row_other U26.out gX (fun q e => by cases e; omega))
      have U37 := Lib.hid (fun t (ht : t < k) => row_other (U36.out t ht) gX (fun q e => by cases e; omega))
      have O7 := Lib.hid (row_other (owns_mono (show X + 1 ≤ wr.heap.size by omega) O6.out) gX (fun q e => by cases e; omega))
      have HB7 := Lib.hid (HB6.out.grown gX (by have := HB6.out.size; omega) (fun q e => by cases e; omega))
      have HST := Lib.hid (And.intro ST.1 (And.intro ST.2.1 (And.intro ST.2.2.1 ST.2.2.2.1)))
      have hs7 := gX.size
      clear ST gX HF6 HG6 U26 U36 O6 HB6
      go_upto_region 15 with fail
      clear q0 q1 qf0 qf1 r0 r1
      generalize (W6.setCell ⟨X, 0, none⟩ (.slice a zs.length c)).setCell ⟨X, 1, none⟩ (.int .i64 kd2) = W7 at *
      have hX7 : X + 1 ≤ W7.heap.size := by omega
      obtain ⟨m0, m1, m2, m3, n0, n1, n2, n3⟩ := HG7.out
      go_upto_region 12 with (at_builtin; refine append_one_lies (v := .slice ao k co) (g := W7.heap.size) elemL rfl _ _ rfl rfl rfl rfl U27.out rfl ?_ ?_ ?_ ?_ ?_; (simp [Value.oneCell']); (unfold maxLen; omega); omega; (exact hX7); intro b' cap' w9 ho' hg' hat9; clear hat9; have D9 := below_appended (Below.refl (X + 1) W7) U27.out hg' (Nat.le_refl _) hX7; have L9 := Lib.hid (ListsAt.snoc (ls := ordTo zs n k) (l := sl) (by rw [ordTo_length]; exact U1.out) (by rw [ordTo_length]; exact U27.out) (by rw [ordTo_length]; exact U37.out) (by rw [HM.out]; exact O7.out) (by rw [ordTo_length]; exact ho') hg'); have HF9 := Lib.hid (HF7.out.kept hg' (fun e => by have := (U27.out.lt _ e).1; omega)); have HG9 := Lib.hid (HG7.out.kept hg' (fun e => by have := (U27.out.lt _ e).1; omega)); clear ho' hg'; have m3' := HG9.out.c3; have n3' := HG9.out.f3; have HD9 := Lib.hid D9; clear D9)
      rw [← OS.out] at L9
      have g3 := grown_set w9 (N + 1) 3 (.slice (some ⟨b', 0, none⟩) (k + 1) cap')
      have L10 := Lib.hid (L9.out.kept g3 (fun q e => by cases e; omega))
      have F10 := Lib.hid (HF9.out.kept g3 (by simp))
      have G10 : Hid (Four (N + 1) (w9.setCell ⟨N + 1, 3, none⟩ (.slice (some ⟨b', 0, none⟩) (k + 1) cap')) (.int .i64 n) (.int .i64 size) (.int .i64 steps) (.slice (some ⟨b', 0, none⟩) (k + 1) cap')) :=
        Lib.hid ⟨(World.cell?_setCell_other _ _ _ _ (by simp)).trans HG9.out.c0, (World.cell?_setCell_other _ _ _ _ (by simp)).trans HG9.out.c1, (World.cell?_setCell_other _ _ _ _ (by simp)).trans HG9.out.c2, World.cell?_setCell_same _ _ _ HG9.out.c3, (World.frozen?_setCell _ _ _ _).trans HG9.out.f0, (World.frozen?_setCell _ _ _ _).trans HG9.out.f1, (World.frozen?_setCell _ _ _ _).trans HG9.out.f2, (World.frozen?_setCell _ _ _ _).trans HG9.out.f3⟩
      have Q10 : Hid ((w9.setCell ⟨N + 1, 3, none⟩ (.slice (some ⟨b', 0, none⟩) (k + 1) cap')).cell? ⟨X, 0, none⟩ = some (.slice a zs.length c) ∧ (w9.setCell ⟨N + 1, 3, none⟩ (.slice (some ⟨b', 0, none⟩) (k + 1) cap')).cell? ⟨X, 1, none⟩ = some (.int .i64 kd2) ∧ (w9.setCell ⟨N + 1, 3, none⟩ (.slice (some ⟨b', 0, none⟩) (k + 1) cap')).frozen? ⟨X, 0, none⟩ = false ∧ (w9.setCell ⟨N + 1, 3, none⟩ (.slice (some ⟨b', 0, none⟩) (k + 1) cap')).frozen? ⟨X, 1, none⟩ = false) :=
        Lib.hid ⟨(World.cell?_setCell_other _ _ _ _ (by simp <;> omega)).trans ((HD9.out.cell (p := ⟨X, 0, none⟩) (show X < X + 1 by omega)).trans HST.out.1), (World.cell?_setCell_other _ _ _ _ (by simp <;> omega)).trans ((HD9.out.cell (p := ⟨X, 1, none⟩) (show X < X + 1 by omega)).trans HST.out.2.1), (World.frozen?_setCell _ _ _ _).trans ((HD9.out.frozen (p := ⟨X, 0, none⟩) (show X < X + 1 by omega)).trans HST.out.2.2.1), (World.frozen?_setCell _ _ _ _).trans ((HD9.out.frozen (p := ⟨X, 1, none⟩) (show X < X + 1 by omega)).trans HST.out.2.2.2)⟩
      have B10 := Lib.hid (below_set (HB7.out.trans (HD9.out.mono (by omega))) (show N ≤ N + 1 by omega) (o := 3) (x := .slice (some ⟨b', 0, none⟩) (k + 1) cap'))
      have hX10 : X < (w9.setCell ⟨N + 1, 3, none⟩ (.slice (some ⟨b', 0, none⟩) (k + 1) cap')).heap.size := by have h1 := HD9.out.size; simp [World.setCell]; omega
      clear g3 L9 HF9 HG9 HD9 m3' n3' m0 m1 m2 m3 n0 n1 n2 n3 HST HB7 HG7 HF7 U27 U37 O7
      generalize w9.setCell ⟨N + 1, 3, none⟩ (.slice (some ⟨b', 0, none⟩) (k + 1) cap') = W10 at *
      go_wp2_with fail
      go_roundw
      case rel => exact ⟨k + 1, _, by omega, by go_num, F10, G10, L10, by rw [HKD2.out]; exact Q10, B10, hX10⟩
      case measure => simp [intOf]; omega
    · have hkE : k = E := by omega
      subst hkE
      obtain ⟨us, u1, u2, u3⟩ := HL.out
      obtain ⟨ao, co, rfl⟩ := own_value u2
      obtain ⟨m0, m1, m2, m3, n0, n1, n2, n3⟩ := HG.out
      obtain ⟨c0, c1, c2, c3, f0, f1, f2, f3⟩ := HF.out
      have P := Lib.hid (HF.out.put (.int .i64 n) (.int .i64 size) (.int .i64 steps) (.slice ao (ordTo zs n k).length co))
      have gP := put4_grown wr N (.int .i64 n) (.int .i64 size) (.int .i64 steps) (.slice ao (ordTo zs n k).length co)
      have BP := Lib.hid (HB.out.grown gP (by have := HB.out.size; omega) (fun q e => by cases e; omega))
      have LP := Lib.hid ((HL.out.kept gP (fun q e => by cases e; have := HF.out.lt; have := HG.out.lt; omega)).mono (show N ≤ X + 1 by omega))
      unfold put4 at P BP LP
      clear HL HG HF HB HQ gP u1 u2 u3
      generalize (ordTo zs n k).length = ol at *
      go_wp2_with fail
      (try simp only [Exit.inBlock, Exit.then])
      have D0 := P.out.c0
      have D1 := P.out.c1
      have D2 := P.out.c2
      have D3 := P.out.c3
      refine bodyPost_ret (v := .tuple #[.agg #[.int .i64 n, .int .i64 size, .int .i64 steps, .slice ao ol co], .int .i64 0]) (by simp [results, Try.results9, D0, D1, D2, D3, go_sem]) rfl ?_
      exact ⟨_, rfl, by rw [hNN]; exact LP.out, by rw [hNN]; exact BP.out⟩
end Go.Proofs.Ytgkiloidjeahbaa
