/- Layer 6: the reference's Shuffle. -/
import Derived.Test.YtgkiloidjeahbaaPrmE
import Derived.BigQuiet
import Derived.Deep.Cut
namespace Go.Proofs.Ytgkiloidjeahbaa
open Go.RowKit
set_option linter.unusedVariables false
def RefShuffled (v : Value) (zs : List Int) (k : Nat) (n : Int) (w : World) (e : Ending) (w' : World) : Prop :=
  if okS zs k n then ∃ u, e = .returned (.tuple #[RefSt v (k + (n.toNat - 1)), u, .bool true]) ∧ w'.ownsRow w.heap.size 3 1 u n.toNat ((shufL zs k n.toNat).map (Value.int .i64)) ∧ Below w.heap.size w w'
  else e = .returned (.tuple #[RefSt v k, .slice none 0 0, .bool false]) ∧ Below w.heap.size w w'
/-- the parameter's cells and the result's -/
structure RS (N : Nat) (v : Value) (k : Nat) (W : World) : Prop where
  p0 : W.cell? ⟨N, 0, none⟩ = some v
  p1 : W.cell? ⟨N, 1, none⟩ = some (.int .i64 k)
  r0 : W.cell? ⟨N + 1, 0, none⟩ = some (.slice none 0 0)
  r1 : W.cell? ⟨N + 1, 1, none⟩ = some (.int .i64 0)
  f0 : W.frozen? ⟨N, 0, none⟩ = false
  f1 : W.frozen? ⟨N, 1, none⟩ = false
  g0 : W.frozen? ⟨N + 1, 0, none⟩ = false
  g1 : W.frozen? ⟨N + 1, 1, none⟩ = false
  sz : N + 2 ≤ W.heap.size
theorem RS.later {N : Nat} {v : Value} {k : Nat} {W W' : World} (h : RS N v k W) (b : Below (N + 2) W W') : RS N v k W' :=
  ⟨(b.cell (p := ⟨N, 0, none⟩) (show N < N + 2 by omega)).trans h.p0, (b.cell (p := ⟨N, 1, none⟩) (show N < N + 2 by omega)).trans h.p1, (b.cell (p := ⟨N + 1, 0, none⟩) (show N + 1 < N + 2 by omega)).trans h.r0, (b.cell (p := ⟨N + 1, 1, none⟩) (show N + 1 < N + 2 by omega)).trans h.r1,
   (b.frozen (p := ⟨N, 0, none⟩) (show N < N + 2 by omega)).trans h.f0, (b.frozen (p := ⟨N, 1, none⟩) (show N < N + 2 by omega)).trans h.f1, (b.frozen (p := ⟨N + 1, 0, none⟩) (show N + 1 < N + 2 by omega)).trans h.g0, (b.frozen (p := ⟨N + 1, 1, none⟩) (show N + 1 < N + 2 by omega)).trans h.g1, Nat.le_trans h.sz b.size⟩
theorem RS.start (w : World) (v : Value) (k q : Nat) (e : TypeId) : RS w.heap.size v k (((w.alloc (.cells #[v, .int .i64 k] e)).alloc (.cells #[.slice none 0 0, .int .i64 0] e)).drewN q) := by
  have x := cells_two w v (.int .i64 k) e
  have y := cells_two (w.alloc (.cells #[v, .int .i64 k] e)) (.slice none 0 0) (.int .i64 0) e
  have fx := World.frozen?_alloc_new w #[v, .int .i64 k] e
  have fy := World.frozen?_alloc_new (w.alloc (.cells #[v, .int .i64 k] e)) #[.slice none 0 0, .int .i64 0] e
  have al := (Below.refl (w.alloc (.cells #[v, .int .i64 k] e)).heap.size (w.alloc (.cells #[v, .int .i64 k] e))).alloc (Nat.le_refl _) (.cells #[.slice none 0 0, .int .i64 0] e)
  have hs : (w.alloc (.cells #[v, .int .i64 k] e)).heap.size = w.heap.size + 1 := by simp
  rw [hs] at y
  refine ⟨cell_step (below_drewN al q) x.1, cell_step (below_drewN al q) x.2, y.1, y.2, frozen_step (below_drewN al q) x.1 (fx 0), frozen_step (below_drewN al q) x.2 (fx 1), ?_, ?_, ?_⟩
  · have := fy 0; rw [hs] at this; exact this
  · have := fy 1; rw [hs] at this; exact this
  · simp
/-- the parameter is stored anew -/
theorem RS.put {N : Nat} {v : Value} {k : Nat} {W : World} (h : RS N v k W) (k' : Nat) : RS N v k' ((W.setCell ⟨N, 0, none⟩ v).setCell ⟨N, 1, none⟩ (.int .i64 k')) := by
  have S := stored2 v (.int .i64 k') h.p0 h.p1 h.f0 h.f1
  have o : ∀ o, ((W.setCell ⟨N, 0, none⟩ v).setCell ⟨N, 1, none⟩ (.int .i64 k')).cell? ⟨N + 1, o, none⟩ = W.cell? ⟨N + 1, o, none⟩ := fun o => by
    rw [World.cell?_setCell_other _ _ _ _ (by simp), World.cell?_setCell_other _ _ _ _ (by simp)]
  refine ⟨S.1, S.2.1, (o 0).trans h.r0, (o 1).trans h.r1, S.2.2.1, S.2.2.2.1, ?_, ?_, ?_⟩
  · rw [World.frozen?_setCell, World.frozen?_setCell]; exact h.g0
  · rw [World.frozen?_setCell, World.frozen?_setCell]; exact h.g1
  · simpa [World.setCell] using h.sz
/-- what is returned -/
theorem RS.done {N : Nat} {v : Value} {k : Nat} {W : World} (h : RS N v k W) (k' : Nat) :
    ((W.setCell ⟨N + 1, 0, none⟩ v).setCell ⟨N + 1, 1, none⟩ (.int .i64 k')).cell? ⟨N + 1, 0, none⟩ = some v ∧ ((W.setCell ⟨N + 1, 0, none⟩ v).setCell ⟨N + 1, 1, none⟩ (.int .i64 k')).cell? ⟨N + 1, 1, none⟩ = some (.int .i64 k') ∧ Below N W ((W.setCell ⟨N + 1, 0, none⟩ v).setCell ⟨N + 1, 1, none⟩ (.int .i64 k')) := by
  have S := stored2 v (.int .i64 k') h.r0 h.r1 h.g0 h.g1
  exact ⟨S.1, S.2.1, S.2.2.2.2.mono (by omega)⟩
set_option maxHeartbeats 2000000 in
theorem refShuffle_no (a : Option Addr) (c : Nat) (zs : List Int) (k : Nat) (hk : k ≤ zs.length) (hm : zs.length ≤ 1048576) (n : Int) (hn : -9223372036854775808 ≤ n ∧ n ≤ 9223372036854775807) (hO : okS zs k n = false) (w : World) :
    Calls Try.prog 26 #[.int .i64 n, .agg #[.slice a zs.length c, .int .i64 k]] w fun e w' => e = .returned (.tuple #[.agg #[.slice a zs.length c, .int .i64 k], .slice none 0 0, .bool false]) ∧ Below w.heap.size w w' := by
  have HRS := Lib.hid (fun q => RS.start w (.slice a zs.length c) k q 63)
  have AL := Lib.hid (fun q => below_drewN (((Below.refl w.heap.size w).alloc (Nat.le_refl _) (.cells #[.slice a zs.length c, .int .i64 k] 63)).alloc (by simp) (.cells #[.slice none 0 0, .int .i64 0] 63)) q)
  by_cases h0 : n < 0
  · have g0 : decide (n < 0) = true := by simpa using h0
    clear hO
    go_enter Try.func26, Try.ntmps26
    go_wp2_with fail
    go_quiet (fail)
    have R := HRS.out nq
    have B := Lib.hid (AL.out nq)
    generalize (World.drewN _ nq) = W2 at *
    obtain ⟨p0, p1, r0, r1, f0, f1, g0', g1, sz⟩ := R
    have R : RS w.heap.size (.slice a zs.length c) k W2 := ⟨p0, p1, r0, r1, f0, f1, g0', g1, sz⟩
    have D := Lib.hid (R.done k)
    clear R
    go_wp2_with fail
    (try simp only [Exit.inBlock, Exit.then])
    have D1 := D.out.1
    have D2 := D.out.2.1
    refine bodyPost_ret (v := .tuple #[.agg #[.slice a zs.length c, .int .i64 k], .slice none 0 0, .bool false]) (by simp [results, Try.results26, D1, D2, go_sem]) rfl ⟨rfl, ?_⟩
    exact B.out.trans D.out.2.2
  · have g0 : decide (n < 0) = false := by simpa using h0
    by_cases h1 : 1048576 < n
    · have g1 : decide (1048576 < n) = true := by simpa using h1
      clear hO
      go_enter Try.func26, Try.ntmps26
      go_wp2_with fail
      go_quiet (fail)
      have R := HRS.out nq
      have B := Lib.hid (AL.out nq)
      generalize (World.drewN _ nq) = W2 at *
      obtain ⟨p0, p1, r0, r1, f0, f1, g0', g1, sz⟩ := R
      have R : RS w.heap.size (.slice a zs.length c) k W2 := ⟨p0, p1, r0, r1, f0, f1, g0', g1, sz⟩
      have D := Lib.hid (R.done k)
      clear R
      go_wp2_with fail
      (try simp only [Exit.inBlock, Exit.then])
      have D1 := D.out.1
      have D2 := D.out.2.1
      refine bodyPost_ret (v := .tuple #[.agg #[.slice a zs.length c, .int .i64 k], .slice none 0 0, .bool false]) (by simp [results, Try.results26, D1, D2, go_sem]) rfl ⟨rfl, ?_⟩
      exact B.out.trans D.out.2.2
    · have g1 : decide (1048576 < n) = false := by simpa using h1
      have h2 : (zs.length : Int) - k < needZ n := by
        unfold okS at hO
        rw [show decide (0 ≤ n) = true by simp; omega, show decide (n ≤ 1048576) = true by simp; omega] at hO
        simpa using hO
      have g2 : decide ((zs.length : Int) - k < needZ n) = true := by simpa using h2
      have HN := Lib.hid (refNeed_any n hn.2)
      have wk : IntKind.i64.wrap ((zs.length : Int) - k) = zs.length - k := IntWalk.i64_in _ (by omega)
      clear hO
      generalize needZ n = nz at *
      go_enter Try.func26, Try.ntmps26
      go_wp2_with fail
      go_quiet ((go_at_call 25; exact (HN.out _).mono (fun _ _ h => ⟨h.1, _, h.2.symm⟩)))
      have R := HRS.out nq
      have B := Lib.hid (AL.out nq)
      generalize (World.drewN _ nq) = W2 at *
      obtain ⟨p0, p1, r0, r1, f0, f1, g0', g1, sz⟩ := R
      have R : RS w.heap.size (.slice a zs.length c) k W2 := ⟨p0, p1, r0, r1, f0, f1, g0', g1, sz⟩
      have D := Lib.hid (R.done k)
      clear R
      go_wp2_with fail
      (try simp only [Exit.inBlock, Exit.then])
      have D1 := D.out.1
      have D2 := D.out.2.1
      refine bodyPost_ret (v := .tuple #[.agg #[.slice a zs.length c, .int .i64 k], .slice none 0 0, .bool false]) (by simp [results, Try.results26, D1, D2, go_sem]) rfl ⟨rfl, ?_⟩
      exact B.out.trans D.out.2.2
theorem IntsW.at_pos {q : IntKind} {n₀ : Nat} {w : World} {v : Value} {zs : List Int} (h : IntsW q n₀ w v zs) (hp : 0 < zs.length) : IntsAt q n₀ w v zs := by
  rcases h with ⟨rfl, _⟩ | h
  · cases hp
  · exact h
set_option maxHeartbeats 4000000 in
theorem refShuffle_yes (a : Option Addr) (c : Nat) (zs : List Int) (hz : ∀ z ∈ zs, 0 ≤ z ∧ z < 18446744073709551616) (k : Nat) (hm : zs.length ≤ 1048576) (n : Nat) (hO : okS zs k n = true) (w : World) (hv : IntsW .u64 w.heap.size w (.slice a zs.length c) zs) :
    Calls Try.prog 26 #[.int .i64 n, .agg #[.slice a zs.length c, .int .i64 k]] w fun e w' => ∃ u, e = .returned (.tuple #[.agg #[.slice a zs.length c, .int .i64 ((k + (n - 1) : Nat) : Int)], u, .bool true]) ∧ w'.ownsRow w.heap.size 3 1 u n ((shufL zs k n).map (Value.int .i64)) ∧ Below w.heap.size w w' := by
  have HRS := Lib.hid (fun q => RS.start w (.slice a zs.length c) k q 63)
  have AL := Lib.hid (fun q => below_drewN (((Below.refl w.heap.size w).alloc (Nat.le_refl _) (.cells #[.slice a zs.length c, .int .i64 k] 63)).alloc (by simp) (.cells #[.slice none 0 0, .int .i64 0] 63)) q)
  unfold okS at hO
  simp only [Bool.and_eq_true, decide_eq_true_eq] at hO
  obtain ⟨h0, h1, h2⟩ := hO
  have hn20 : n ≤ 1048576 := by omega
  have g0 : decide ((n : Int) < 0) = false := by simp
  have g1 : decide (1048576 < (n : Int)) = false := by simp; omega
  have g2 : decide ((zs.length : Int) - k < needZ n) = false := by simp; omega
  have hkn : k + (n - 1) ≤ zs.length := by
    unfold needZ at h2
    by_cases hn1 : (n : Int) < 1
    · rw [if_pos hn1] at h2; omega
    · rw [if_neg hn1] at h2; omega
  have HN := Lib.hid (refNeed_any (n : Int) (by omega))
  have wk : IntKind.i64.wrap ((zs.length : Int) - k) = zs.length - k := IntWalk.i64_in _ (by omega)
  have HV := Lib.hid hv
  clear h0 h1 h2 hv
  generalize needZ n = nz at *
  go_enter Try.func26, Try.ntmps26
  go_wp2_with fail
  go_quiet ((go_at_call 25; exact (HN.out _).mono (fun _ _ h => ⟨h.1, _, h.2.symm⟩)))
  have R := Lib.hid (HRS.out nq)
  have B := Lib.hid (AL.out nq)
  generalize (World.drewN _ nq) = W2 at *
  clear HRS AL HN wk
  have hN2 : w.heap.size + 2 ≤ W2.heap.size := R.out.sz
  have HB0 := Lib.hid (Below.refl (w.heap.size + 2) W2)
  have HR0 := Lib.hid (show W2.ownsRow (w.heap.size + 2) 3 1 (.slice none 0 0) 0 ((idL 0).map (Value.int .i64)) from World.ownsRow_nil _ _ _ _)
  generalize hNN : w.heap.size = N at *
  go_wp2_with fail
  go_loopw [7, 8] (fun l i wr => ∃ j : Nat, j ≤ n ∧ i = .int .i64 j ∧ Hid (wr.ownsRow (N + 2) 3 1 l j ((idL j).map (Value.int .i64))) ∧ Hid (Below (N + 2) W2 wr)) (fun _ i _ => n - (intOf i).toNat)
  case atStart => exact ⟨0, Nat.zero_le _, rfl, HR0, HB0⟩
  case round =>
    obtain ⟨j, hj, rfl, HR, HB⟩ := hrel
    by_cases hlt : j < n
    · have HE := Lib.hid (show (idL (j + 1)).map (Value.int .i64) = (idL j).map (Value.int .i64) ++ [.int .i64 (j : Int)] by rw [idL_succ, List.map_append]; rfl)
      have hbs := Nat.le_trans hN2 HB.out.size
      go_wp2_with (at_builtin; refine append_one elemI rfl _ _ rfl rfl rfl HR.out rfl ?_ ?_ ?_ ?_ ?_; (simp [Value.oneCell']); (unfold maxLen; omega); omega; (exact hbs); intro v' w' ho' hg'; have HB2 := Lib.hid (below_appended HB.out HR.out (show wr.grownBy w' _ from hg') (Nat.le_refl _) hbs); clear hg'; have HR2 := Lib.hid ho'; clear ho')
      go_roundw
      case rel => exact ⟨j + 1, by omega, by go_num, Lib.hid (by rw [HE.out]; exact HR2.out), HB2⟩
      case measure => simp [intOf]; omega
    · have hj' : j = n := by omega
      subst hj'
      have RS1 := Lib.hid (R.out.later HB.out)
      have B1 := Lib.hid (B.out.trans (HB.out.mono (by omega)))
      have RO := Lib.hid (show wr.ownsRow (N + 2) 3 1 u7 j ((shufTo zs k j 0).map (Value.int .i64)) from HR.out)
      clear R B HB HR HB0 HR0
      clear hj hlt
      go_wp2_with fail
      generalize u7 = l at *
      go_loopw [9, 11, 12, 13] (fun i _ _ _ wr => ∃ s : Nat, s ≤ j - 1 ∧ i = .int .i64 ((j : Int) - 1 - s) ∧ Hid (wr.ownsRow (N + 2) 3 1 l j ((shufTo zs k j s).map (Value.int .i64))) ∧ Hid (RS N (.slice a zs.length c) (k + s) wr) ∧ Hid (Below N w wr)) (fun i _ _ _ _ => (intOf i).toNat)
      case atStart => exact ⟨0, Nat.zero_le _, by go_num, RO, RS1, B1⟩
      case round =>
        obtain ⟨s, hs, rfl, RO, RR, HB⟩ := hrel
        by_cases hlt : s < j - 1
        · obtain ⟨m, hm1⟩ : ∃ m : Nat, (j : Int) - 1 - s = m := ⟨j - 1 - s, by omega⟩
          have hm2 : m = j - 1 - s := by omega
          have hm3 : m < j := by omega
          have hm4 : (0 : Int) < (m : Int) := by omega
          rw [hm1]
          have hkl : k + s < zs.length := by omega
          have HVr := Lib.hid (((HV.out.below HB.out).grow (show N ≤ wr.heap.size by have := RR.out.sz; omega)).at_pos (by omega))
          have NX := refNext_any (.slice a zs.length c) zs hz (k + s) hm ((m : Int) + 1) (by omega) wr HVr.out
          rw [nextR_ok (zs := zs) (k := k + s) (n := (m : Int) + 1) (by omega) hkl] at NX
          have hr := draw_range (zs[k + s]?.getD 0) m
          obtain ⟨d, hd⟩ := Int.eq_ofNat_of_zero_le hr.1
          have SW := Lib.hid (fun x y => shuf_swap zs k j s x y m d hm2 hd.symm)
          rw [hd] at NX hr
          have hdm : d < j := by omega
          have hlen := shufTo_length zs k j s
          obtain ⟨x, hx⟩ : ∃ x, (shufTo zs k j s)[m]? = some x := ⟨_, List.getElem?_eq_getElem (by omega)⟩
          obtain ⟨y, hy⟩ : ∃ y, (shufTo zs k j s)[d]? = some y := ⟨_, List.getElem?_eq_getElem (by omega)⟩
          have SW := Lib.hid (SW.out x y hx hy)
          obtain ⟨G, cl, el, hG1, hG2⟩ := own_some RO.out (by omega)
          subst el
          have HXM := Lib.hid (by rw [List.getElem?_map, hx]; rfl : ((shufTo zs k j s).map (Value.int .i64))[m]? = some (Value.int .i64 x))
          have HXD := Lib.hid (by rw [List.getElem?_map, hy]; rfl : ((shufTo zs k j s).map (Value.int .i64))[d]? = some (Value.int .i64 y))
          clear hd hx hy hlen
          generalize (shufTo zs k j s).map (Value.int .i64) = xs at *
          have hrt : k + s + 1 = k + (s + 1) := by omega
          unfold RefSt at NX
          rw [hrt] at NX
          have HM1 := Lib.hid hm1
          have HNX := Lib.hid NX
          clear hm1 hm2 NX
          generalize hkk : k + s = kk at *
          generalize hkk2 : k + (s + 1) = kk2 at *
          have e0 := RR.out.p0
          have e1 := RR.out.p1
          go_wp2_with fail
          refine HNX.out.mono ?_
          rintro e w5 ⟨rfl, b5⟩
          have hs5 : wr.heap.size ≤ w5.heap.size := b5.size
          have F := cells_two w5 (.slice a zs.length c) (.int .i64 kk2) 63
          have BX := Lib.hid (b5.trans ((Below.refl wr.heap.size w5).alloc hs5 (.cells #[.slice a zs.length c, .int .i64 kk2] 63)))
          have hUX : w5.heap.size < (w5.alloc (.cells #[.slice a zs.length c, .int .i64 kk2] 63)).heap.size := by simp
          clear e0 e1
          go_upto_region 12 with fail
          obtain ⟨F0, F1⟩ := F
          generalize (w5.alloc (.cells #[.slice a zs.length c, .int .i64 kk2] 63)) = WX at *
          generalize w5.heap.size = U at *
          have RX := Lib.hid (RR.out.later (BX.out.mono RR.out.sz))
          have hUN : N < U := by have := RR.out.sz; omega
          have RY := Lib.hid (RX.out.put kk2)
          have ROX := own_below RO.out BX.out
          have ROY := Lib.hid (ownsRow_setCell_below (ownsRow_setCell_below ROX (a := ⟨N, 0, none⟩) (show N < N + 2 by omega) (.slice a zs.length c)) (a := ⟨N, 1, none⟩) (show N < N + 2 by omega) (.int .i64 kk2))
          have BY := Lib.hid (below_set (below_set (HB.out.trans (BX.out.mono (show N ≤ wr.heap.size by have := RR.out.sz; omega))) (Nat.le_refl N) (o := 0) (x := .slice a zs.length c)) (Nat.le_refl N) (o := 1) (x := .int .i64 kk2))
          have X0 := RX.out.p0
          have X1 := RX.out.p1
          have X2 := RX.out.f0
          have X3 := RX.out.f1
          clear ROX
          go_upto_region 13 with fail
          clear X0 X1 X2 X3 F0 F1 RX
          generalize (WX.setCell ⟨N, 0, none⟩ (.slice a zs.length c)).setCell ⟨N, 1, none⟩ (.int .i64 kk2) = WY at *
          have YM := (ROY.out.cellAt m (by omega)).trans HXM.out
          have YJ := (ROY.out.cellAt d (by omega)).trans HXD.out
          have FM := ROY.out.frozenAt m
          have FD := ROY.out.frozenAt d
          obtain ⟨z, cz⟩ : ∃ z, (WY.setCell ⟨G, m, none⟩ (.int .i64 y)).cell? ⟨G, d, none⟩ = some z := by
            by_cases e : d = m
            · subst e; exact ⟨_, World.cell?_setCell_same _ _ _ YM⟩
            · exact ⟨_, (World.cell?_setCell_other _ _ _ _ (by simp)).trans YJ⟩
          have st1 := ROY.out.stored m (.int .i64 y)
          have st2 := st1.1.stored d (.int .i64 x)
          rw [SW.out] at st2
          have hGY := (ROY.out.lt G rfl).2
          have gg := grown_trans st1.2 st2.2
          have RO6 := Lib.hid st2.1
          have BG := ((Below.refl G WY).grown gg (Nat.le_of_lt hGY) (fun q e => by cases e; exact Nat.le_refl _)).mono hG1
          have RS6 := Lib.hid (RY.out.later BG)
          have B6 := Lib.hid (BY.out.trans (BG.mono (show N ≤ N + 2 by omega)))
          clear st1 st2 gg BG
          go_wp2_with fail
          go_roundw
          case rel => exact ⟨s + 1, by omega, by have := HM1.out; rw [show (j : Int) - 1 - ((s + 1 : Nat) : Int) = (m : Int) - 1 by omega], RO6, hkk2 ▸ RS6, B6⟩
          case measure => simp [intOf]; omega
        · have hse : s = j - 1 := by omega
          subst hse
          have RR' := RR.out
          have DD := Lib.hid (RR.out.done (k + (j - 1)))
          have X0 := RR.out.p0
          have X1 := RR.out.p1
          have X2 := RR.out.r0
          have X3 := RR.out.r1
          have X4 := RR.out.g0
          have X5 := RR.out.g1
          clear RR'
          generalize hkk : k + (j - 1) = kk at *
          go_wp2_with fail
          (try simp only [Exit.inBlock, Exit.then])
          have D1 := DD.out.1
          have D2 := DD.out.2.1
          refine bodyPost_ret (v := .tuple #[.agg #[.slice a zs.length c, .int .i64 kk], l, .bool true]) (by simp [results, Try.results26, D1, D2, go_sem]) rfl ?_
          subst hkk
          exact ⟨_, rfl, owns_mono (show w.heap.size ≤ N + 2 by omega) (ownsRow_setCell_below (ownsRow_setCell_below RO.out (a := ⟨N + 1, 0, none⟩) (show N + 1 < N + 2 by omega) _) (a := ⟨N + 1, 1, none⟩) (show N + 1 < N + 2 by omega) _), by rw [hNN]; exact HB.out.trans DD.out.2.2⟩
theorem refShuffle_any (v : Value) (zs : List Int) (hz : ∀ z ∈ zs, 0 ≤ z ∧ z < 18446744073709551616) (k : Nat) (hk : k ≤ zs.length) (hm : zs.length ≤ 1048576) (n : Int) (hn : -9223372036854775808 ≤ n ∧ n ≤ 9223372036854775807) (w : World) (hv : IntsW .u64 w.heap.size w v zs) :
    Calls Try.prog 26 #[.int .i64 n, RefSt v k] w (RefShuffled v zs k n w) := by
  obtain ⟨a, c, rfl⟩ := hv.value
  unfold RefShuffled
  cases hO : okS zs k n
  · exact refShuffle_no a c zs k hk hm n hn hO w
  · have h0 : 0 ≤ n := by
      unfold okS at hO
      rw [Bool.and_eq_true] at hO
      exact of_decide_eq_true hO.1
    obtain ⟨m, rfl⟩ := Int.eq_ofNat_of_zero_le h0
    exact refShuffle_yes a c zs hz k hm m hO w hv
end Go.Proofs.Ytgkiloidjeahbaa
