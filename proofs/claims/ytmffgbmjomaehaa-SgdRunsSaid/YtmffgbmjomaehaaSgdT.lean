/- The reference's Next. -/
import Derived.Test.YtmffgbmjomaehaaSgdR
namespace Go.Proofs.Ytmffgbmjomaehaa
open Go.RowKit
set_option linter.unusedVariables false
theorem Two.drew {N U n m : Nat} {vp vm : Value} {xs ys : List Int} {W0 W : World} (h : Two N U vp vm n m xs ys W0 W) : Two N U vp vm n m xs ys W0 W.drew :=
  ⟨⟨h.hU, h.lt, h.u0, h.u1, h.op.drew, h.om.drew, h.pu, h.mu, h.pm, h.bb.drew⟩, h.f0, h.f1⟩
set_option maxHeartbeats 2000000 in
theorem refNext_no (rate mom q : Int) (p m g : Value) (zp zm zg : List Int) (h : nextOk zp zm zg = false) (w : World) (ip : IntsW .i64 w.heap.size w p zp) (im : IntsW .i64 w.heap.size w m zm) (ig : IntsW .i64 w.heap.size w g zg) :
    Calls Try.prog 13 #[.agg #[.int .i64 rate, .int .i64 mom, .int .i64 q], .agg #[p, m], g] w (NextIs rate mom q zp zm zg w) := by
  obtain ⟨a1, c1, rfl⟩ := ip.value
  obtain ⟨a2, c2, rfl⟩ := im.value
  obtain ⟨a3, c3, rfl⟩ := ig.value
  have HN := Lib.hid h
  have hh : zp.length ≠ zm.length ∨ (zp.length = zm.length ∧ zp.length ≠ zg.length) := by
    unfold nextOk at h
    simp at h
    omega
  have BW : Below w.heap.size w (((w.alloc (.cells #[.int .i64 rate, .int .i64 mom, .int .i64 q] 23)).alloc (.cells #[.slice a1 zp.length c1, .slice a2 zm.length c2] 26)).alloc (.cells #[.slice none 0 0, .slice none 0 0] 26)) :=
    (((Below.refl w.heap.size w).alloc (Nat.le_refl _) _).alloc (by simp) _).alloc (by simp <;> omega) _
  clear h ip im ig
  rcases hh with h1 | ⟨h1, h2⟩
  · have g1 : ((zp.length : Int) != (zm.length : Int)) = true := by simp; omega
    go_enter Try.func13, Try.ntmps13
    go_wp2_with fail
    (try simp only [Exit.inBlock, Exit.then])
    refine bodyPost_ret (v := .tuple #[.agg #[.slice none 0 0, .slice none 0 0], .bool false]) (by simp [results, Try.results13, go_sem]) rfl ?_
    unfold NextIs
    rw [HN.out]
    exact ⟨rfl, BW⟩
  · have g1 : ((zp.length : Int) != (zm.length : Int)) = false := by simp [h1]
    have g2 : ((zp.length : Int) != (zg.length : Int)) = true := by simp; omega
    clear h1 h2
    go_enter Try.func13, Try.ntmps13
    go_wp2_with fail
    (try simp only [Exit.inBlock, Exit.then])
    refine bodyPost_ret (v := .tuple #[.agg #[.slice none 0 0, .slice none 0 0], .bool false]) (by simp [results, Try.results13, go_sem]) rfl ?_
    unfold NextIs
    rw [HN.out]
    exact ⟨rfl, BW⟩
set_option maxHeartbeats 8000000 in
theorem refNext_yes (rate mom q : Int) (hr : Word rate) (ho : Word mom) (p m g : Value) (zp zm zg : List Int) (wm_ : ∀ z ∈ zm, Word z) (hp : zp.length * 8 ≤ 140737488351232) (h : nextOk zp zm zg = true) (w : World) (ip : IntsW .i64 w.heap.size w p zp) (im : IntsW .i64 w.heap.size w m zm) (ig : IntsW .i64 w.heap.size w g zg) :
    Calls Try.prog 13 #[.agg #[.int .i64 rate, .int .i64 mom, .int .i64 q], .agg #[p, m], g] w (NextIs rate mom q zp zm zg w) := by
  have HIP := Lib.hid ip
  have HIM := Lib.hid im
  have HIG := Lib.hid ig
  obtain ⟨a1, c1, rfl⟩ := ip.value
  obtain ⟨a2, c2, rfl⟩ := im.value
  obtain ⟨a3, c3, rfl⟩ := ig.value
  have HN := Lib.hid h
  have hh : zp.length = zm.length ∧ zp.length = zg.length := by
    unfold nextOk at h
    simpa using h
  have HL := Lib.hid hh
  have HMW : Hid (∀ z ∈ zm, Word z) := Lib.hid wm_
  have hl1 : zm.length ≤ zp.length ∧ zp.length ≤ zm.length ∧ zg.length ≤ zp.length ∧ zp.length ≤ zg.length := by omega
  have g1 : ((zp.length : Int) != (zm.length : Int)) = false := by simp [hh.1]
  have g2 : ((zp.length : Int) != (zg.length : Int)) = false := by simp [hh.2]
  obtain ⟨l1, l2, l3, l4⟩ := hl1
  have BA := (Below.refl w.heap.size w).alloc (Nat.le_refl _) (.cells #[.int .i64 rate, .int .i64 mom, .int .i64 q] 23)
  obtain ⟨WA, hWA⟩ : ∃ WA, WA = w.alloc (.cells #[.int .i64 rate, .int .i64 mom, .int .i64 q] 23) := ⟨_, rfl⟩
  have r0 := cell_new w #[.int .i64 rate, .int .i64 mom, .int .i64 q] 23 0
  have r1 := cell_new w #[.int .i64 rate, .int .i64 mom, .int .i64 q] 23 1
  have r2 := cell_new w #[.int .i64 rate, .int .i64 mom, .int .i64 q] 23 2
  simp only [List.getElem?_toArray, List.getElem?_cons_zero, List.getElem?_cons_succ] at r0 r1 r2
  have hzA : WA.heap.size = w.heap.size + 1 := by rw [hWA]; simp
  rw [← hWA] at r0 r1 r2 BA
  have BB := (Below.refl WA.heap.size WA).alloc (Nat.le_refl _) (.cells #[.slice a1 zp.length c1, .slice a2 zm.length c2] 26)
  have s01 := cells_two WA (.slice a1 zp.length c1) (.slice a2 zm.length c2) 26
  obtain ⟨WB, hWB⟩ : ∃ WB, WB = WA.alloc (.cells #[.slice a1 zp.length c1, .slice a2 zm.length c2] 26) := ⟨_, rfl⟩
  have hzB : WB.heap.size = w.heap.size + 2 := by rw [hWB]; simp [hzA]
  rw [← hWB] at s01 BB
  have BC := (Below.refl WB.heap.size WB).alloc (Nat.le_refl _) (.cells #[.slice none 0 0, .slice none 0 0] 26)
  have q01 := cells_two WB (.slice none 0 0) (.slice none 0 0) 26
  have qf := World.frozen?_alloc_new WB #[.slice none 0 0, .slice none 0 0] 26
  have hzC : (WB.alloc (.cells #[.slice none 0 0, .slice none 0 0] 26)).heap.size = w.heap.size + 3 := by simp [hzB]
  have TS := Lib.hid (Two.start (WB.alloc (.cells #[.slice none 0 0, .slice none 0 0] 26)) 26)
  have r0 := cell_step BC (cell_step BB r0)
  have r1 := cell_step BC (cell_step BB r1)
  have r2 := cell_step BC (cell_step BB r2)
  have s0 := cell_step BC s01.1
  have s1 := cell_step BC s01.2
  have q0 := q01.1
  have q1 := q01.2
  have qf0 := qf 0
  have qf1 := qf 1
  have AL := (BA.trans (BB.mono (by omega))).trans (BC.mono (by omega))
  rw [hzA] at s0 s1
  rw [hzB] at q0 q1 qf0 qf1
  subst hWB
  subst hWA
  clear BA BB BC s01 q01 qf hzA hzB h hh ip im ig
  go_enter Try.func13, Try.ntmps13
  go_wp2_with fail
  generalize (((w.alloc (.cells #[.int .i64 rate, .int .i64 mom, .int .i64 q] 23)).alloc (.cells #[.slice a1 zp.length c1, .slice a2 zm.length c2] 26)).alloc (.cells #[.slice none 0 0, .slice none 0 0] 26)) = W0 at *
  generalize hN : w.heap.size = NN at *
  clear g1 g2
  rw [hzC] at TS
  generalize W0.alloc (.cells #[.slice none 0 0, .slice none 0 0] 26) = W1 at *
  generalize hUe : NN + 3 = U at *
  have hNU : NN + 2 < U := by omega
  clear hUe
  obtain ⟨ms, hms⟩ : ∃ ms, ms = nextM zm zg mom q := ⟨_, rfl⟩
  obtain ⟨ps, hps⟩ : ∃ ps, ps = nextP zp ms rate q := ⟨_, rfl⟩
  have hml : ms.length = zp.length := by rw [hms, nextM_length _ _ _ _ (HL.out.1.symm.trans HL.out.2)]; exact HL.out.2.symm
  have hpl : ps.length = zp.length := by rw [hps, nextP_length _ _ _ _ hml.symm]
  have HMG : Hid (∀ k, k < zp.length → ms[k]?.getD 0 = wrap64 (mulq mom (zm[k]?.getD 0) q + zg[k]?.getD 0)) := Lib.hid (fun k hk => by rw [hms]; exact nextM_get _ _ _ _ _ (by omega) (by omega))
  have HPG : Hid (∀ k, k < zp.length → ps[k]?.getD 0 = wrap64 (zp[k]?.getD 0 - mulq rate (ms[k]?.getD 0) q)) := Lib.hid (fun k hk => by rw [hps]; exact nextP_get _ _ _ _ _ hk (by omega))
  have HMSW : Hid (∀ z ∈ ms, Word z) := Lib.hid (by rw [hms]; exact nextM_word _ _ _ _)
  have HMS := Lib.hid hms
  have HPS := Lib.hid hps
  have HML := Lib.hid hml
  have HPL := Lib.hid hpl
  clear hms hps hml hpl
  go_loopw [9, 10] (fun i _ wr => ∃ (k : Nat) (ap : Option Addr) (cp : Nat) (am : Option Addr) (cm : Nat), k ≤ zp.length ∧ i = .int .i64 k ∧ Two U U (.slice ap k cp) (.slice am k cm) k k (ps.take k) (ms.take k) W0 wr) (fun i _ _ => zp.length - (intOf i).toNat)
  case atStart => exact ⟨0, none, 0, none, 0, Nat.zero_le _, rfl, by simpa using TS.out⟩
  case round =>
    obtain ⟨k, ap, cp, am, cm, hk, rfl, hT⟩ := hrel
    have HT := Lib.hid hT
    have HBW := Lib.hid (AL.trans (hT.bb.mono (by omega)))
    have hzr := hT.bb.size
    have u0 := hT.u0
    have u1 := hT.u1
    have f0 := hT.f0
    have f1 := hT.f1
    have t0 := (hT.bb.cell (p := ⟨NN, 0, none⟩) (show NN < _ by omega)).trans r0
    have t1 := (hT.bb.cell (p := ⟨NN, 1, none⟩) (show NN < _ by omega)).trans r1
    have t2 := (hT.bb.cell (p := ⟨NN, 2, none⟩) (show NN < _ by omega)).trans r2
    have t3 := (hT.bb.cell (p := ⟨NN + 1, 0, none⟩) (show NN + 1 < _ by omega)).trans s0
    have t4 := (hT.bb.cell (p := ⟨NN + 1, 1, none⟩) (show NN + 1 < _ by omega)).trans s1
    clear hT
    by_cases hlt : k < zp.length
    · have hltm : k < zm.length := by omega
      have hltg : k < zg.length := by omega
      rcases HIP.out with ⟨e0, _⟩ | hI1
      · rw [e0] at hlt; simp at hlt
      rcases HIM.out with ⟨e0, _⟩ | hI2
      · rw [e0] at hltm; simp at hltm
      rcases hI1.form with ⟨_, e0⟩ | ⟨b1, o1, d1, e0, _, hb1, hc1⟩
      · rw [e0] at hlt; simp at hlt
      cases e0
      rcases hI2.form with ⟨_, e0⟩ | ⟨b2, o2, d2, e0, _, hb2, hc2⟩
      · rw [e0] at hltm; simp at hltm
      cases e0
      rcases HIG.out.forms with ⟨_, _, _, e0⟩ | ⟨b3, o3, d3, e0, _, hb3, hc3⟩
      · rw [e0] at hltg; simp at hltg
      cases e0
      have v1 := (HBW.out.cell (p := ⟨b1, o1 + k, none⟩) (by omega)).trans (hc1 k hlt)
      have v2 := (HBW.out.cell (p := ⟨b2, o2 + k, none⟩) (by omega)).trans (hc2 k hltm)
      have v3 := (HBW.out.cell (p := ⟨b3, o3 + k, none⟩) (by omega)).trans (hc3 k hltg)
      have HV1 := Lib.hid (hc1 k hlt)
      clear hc1 hc2 hc3
      have HX1 := Lib.hid (HMG.out k hlt)
      have HX2 := Lib.hid (HPG.out k hlt)
      have hw2 := HMW.out (zm[k]?.getD 0) (by rw [List.getElem?_eq_getElem hltm]; exact List.getElem_mem _)
      have hwm := HMSW.out (ms[k]?.getD 0) (by rw [List.getElem?_eq_getElem (show k < ms.length by rw [HML.out]; exact hlt)]; exact List.getElem_mem _)
      have HT1 := Lib.hid (show ms.take (k + 1) = ms.take k ++ [ms[k]?.getD 0] by rw [List.take_add_one, List.getElem?_eq_getElem (show k < ms.length by rw [HML.out]; exact hlt)]; rfl)
      have HT2 := Lib.hid (show ps.take (k + 1) = ps.take k ++ [ps[k]?.getD 0] by rw [List.take_add_one, List.getElem?_eq_getElem (show k < ps.length by rw [HPL.out]; exact hlt)]; rfl)
      generalize zp[k]?.getD 0 = x1 at *
      generalize zm[k]?.getD 0 = x2 at *
      generalize zg[k]?.getD 0 = x3 at *
      generalize ms[k]?.getD 0 = y1 at *
      generalize ps[k]?.getD 0 = y2 at *
      go_wp2_with fail
      refine wp_region_held_drew (S := fun w' => w'.cell? ⟨NN, 1, none⟩ = some (.int .i64 mom) ∧ w'.cell? ⟨NN, 2, none⟩ = some (.int .i64 q) ∧ w'.cell? ⟨NN + 1, 1, none⟩ = some (.slice (some ⟨b2, o2, none⟩) zm.length c2) ∧ w'.cell? ⟨b2, o2 + k, none⟩ = some (.int .i64 x2) ∧ w'.cell? ⟨b3, o3 + k, none⟩ = some (.int .i64 x3)) (by kernel_rfl) ?_ (fun hHeld => ?_)
      · exact ⟨t1, t2, t4, v2, v3⟩
      refine wpAnyH_take (i := 0) (v := ?v1) rfl (by kernel_rfl) (by kernel_rfl) (by kernel_rfl) (fun _ _ _ h => h) (Or.inl ⟨by rfl, ?hy1⟩) (by assumption) ?rest1
      case hy1 => (intro w hSw; (try dsimp only at hSw); go_simp; (first | done | with_reducible rfl))
      simp only [Act.put, List.setIfInBounds_toArray, List.set_cons_zero, List.set_cons_succ, List.getElem_toArray, List.getElem_cons_zero]
      refine wpAnyH_take (i := 1) (v := ?v2) rfl (by kernel_rfl) (by kernel_rfl) (by kernel_rfl) (fun _ _ _ h => h) (Or.inl ⟨by rfl, ?hy2⟩) (by assumption) ?rest2
      case hy2 => (intro w hSw; (try dsimp only at hSw); go_simp; (first | done | with_reducible rfl))
      simp only [Act.put, List.setIfInBounds_toArray, List.set_cons_zero, List.set_cons_succ, List.getElem_toArray, List.getElem_cons_zero, List.getElem_cons_succ]
      refine wpAnyH_take (i := 2) (v := ?v3) rfl (by kernel_rfl) (by kernel_rfl) (by kernel_rfl) (fun _ _ _ h => h) (Or.inl ⟨by rfl, ?hy3⟩) (by assumption) ?rest3
      case hy3 => (intro w hSw; (try dsimp only at hSw); go_simp; (first | done | with_reducible rfl))
      simp only [Act.put, List.setIfInBounds_toArray, List.set_cons_zero, List.set_cons_succ, List.getElem_toArray, List.getElem_cons_zero, List.getElem_cons_succ]
      refine wpAnyH_take (i := 3) (v := ?v4) rfl (by kernel_rfl) (by kernel_rfl) (by kernel_rfl) (fun _ _ _ h => h) (Or.inl ⟨by rfl, ?hy4⟩) (by assumption) ?rest4
      case hy4 => (intro w hSw; (try dsimp only at hSw); go_simp; (first | done | with_reducible rfl))
      simp only [Act.put, List.setIfInBounds_toArray, List.set_cons_zero, List.set_cons_succ, List.getElem_toArray, List.getElem_cons_zero, List.getElem_cons_succ]
      refine wpAnyH_take (i := 4) (v := ?v5) rfl (by kernel_rfl) (by kernel_rfl) (by kernel_rfl) (fun _ _ _ h => h) (Or.inl ⟨by rfl, ?hy5⟩) (by assumption) ?rest5
      case hy5 => (intro w hSw; (try dsimp only at hSw); go_simp; (first | done | with_reducible rfl))
      simp only [Act.put, List.setIfInBounds_toArray, List.set_cons_zero, List.set_cons_succ, List.getElem_toArray, List.getElem_cons_zero, List.getElem_cons_succ]
      refine wpAnyH_take (i := 5) (v := ?v6) rfl (by kernel_rfl) (by kernel_rfl) (by kernel_rfl) (fun _ _ _ h => h) (Or.inl ⟨by rfl, ?hy6⟩) (by assumption) ?rest6
      case hy6 => (intro w hSw; (try dsimp only at hSw); go_simp; (first | done | with_reducible rfl))
      simp only [Act.put, List.setIfInBounds_toArray, List.set_cons_zero, List.set_cons_succ, List.getElem_toArray, List.getElem_cons_zero, List.getElem_cons_succ]
      refine wpAnyH_take (i := 6) (v := ?v7) rfl (by kernel_rfl) (by kernel_rfl) (by kernel_rfl) (fun _ _ _ h => h) (Or.inl ⟨by rfl, ?hy7⟩) (by assumption) ?rest7
      case hy7 => (intro w hSw; (try dsimp only at hSw); go_simp; (first | done | with_reducible rfl))
      simp only [Act.put, List.setIfInBounds_toArray, List.set_cons_zero, List.set_cons_succ, List.getElem_toArray, List.getElem_cons_zero, List.getElem_cons_succ]
      refine wpAnyH_take (i := 7) (v := ?v8) rfl (by kernel_rfl) (by kernel_rfl) (by kernel_rfl) (fun _ _ _ h => h) (Or.inl ⟨by rfl, ?hy8⟩) (by assumption) ?rest8
      case hy8 => (intro w hSw; (try dsimp only at hSw); go_simp; (first | done | with_reducible rfl))
      simp only [Act.put, List.setIfInBounds_toArray, List.set_cons_zero, List.set_cons_succ, List.getElem_toArray, List.getElem_cons_zero, List.getElem_cons_succ]
      refine wpAnyH_take (i := 8) (v := ?v9) rfl (by kernel_rfl) (by kernel_rfl) (by kernel_rfl) (fun _ _ _ h => h) (Or.inl ⟨by rfl, ?hy9⟩) (by assumption) ?rest9
      case hy9 => (intro w hSw; (try dsimp only at hSw); go_simp; (first | done | with_reducible rfl))
      simp only [Act.put, List.setIfInBounds_toArray, List.set_cons_zero, List.set_cons_succ, List.getElem_toArray, List.getElem_cons_zero, List.getElem_cons_succ]
      refine wpAnyH_take (i := 10) (v := ?v10) rfl (by kernel_rfl) (by kernel_rfl) (by kernel_rfl) (fun _ _ _ h => h) (Or.inl ⟨by rfl, ?hy10⟩) (by assumption) ?rest10
      case hy10 => (intro w hSw; (try dsimp only at hSw); go_simp; (first | done | with_reducible rfl))
      simp only [Act.put, List.setIfInBounds_toArray, List.set_cons_zero, List.set_cons_succ, List.getElem_toArray, List.getElem_cons_zero, List.getElem_cons_succ]
      refine wpAnyH_take (i := 11) (v := ?v11) rfl (by kernel_rfl) (by kernel_rfl) (by kernel_rfl) (fun _ _ _ h => h) (Or.inl ⟨by rfl, ?hy11⟩) (by assumption) ?rest11
      case hy11 => (intro w hSw; (try dsimp only at hSw); go_simp; (first | done | with_reducible rfl))
      simp only [Act.put, List.setIfInBounds_toArray, List.set_cons_zero, List.set_cons_succ, List.getElem_toArray, List.getElem_cons_zero, List.getElem_cons_succ]
      refine wpAnyH_take (i := 12) (v := ?v12) rfl (by kernel_rfl) (by kernel_rfl) (by kernel_rfl) (fun _ _ _ h => h) (Or.inl ⟨by rfl, ?hy12⟩) (by assumption) ?rest12
      case hy12 => (intro w hSw; (try dsimp only at hSw); go_simp; (first | done | with_reducible rfl))
      simp only [Act.put, List.setIfInBounds_toArray, List.set_cons_zero, List.set_cons_succ, List.getElem_toArray, List.getElem_cons_zero, List.getElem_cons_succ]
      refine wpAnyH_take (i := 13) (v := ?v13) rfl (by kernel_rfl) (by kernel_rfl) (by kernel_rfl) (fun _ _ _ h => h) (Or.inl ⟨by rfl, ?hy13⟩) (by assumption) ?rest13
      case hy13 => (intro w hSw; (try dsimp only at hSw); go_simp; (first | done | with_reducible rfl))
      simp only [Act.put, List.setIfInBounds_toArray, List.set_cons_zero, List.set_cons_succ, List.getElem_toArray, List.getElem_cons_zero, List.getElem_cons_succ]
      refine wpAnyH_ready (rs := [9]) (by kernel_rfl) (by simp) ?_
      refine AllReadyH.cons rfl (fun K hK => ?_) AllReadyH.nil
      simp only [List.getElem_toArray, List.getElem_cons_zero, List.getElem_cons_succ]
      go_simp
      go_at_call 31
      refine (refMul_any mom x2 q ho.1 ho.2 hw2.1 hw2.2 _).mono ?_
      rintro e w5 ⟨rfl, rfl⟩
      go_wp2_with fail
      refine hK.out _ _ hHeld (fun hHeld => ?_)
      clear hK K
      try simp only [Act.put, List.setIfInBounds_toArray, List.set_cons_zero, List.set_cons_succ, List.getElem_toArray, List.getElem_cons_zero, List.getElem_cons_succ]
      refine wpAnyH_take (i := 14) (v := ?v14) rfl (by kernel_rfl) (by kernel_rfl) (by kernel_rfl) (fun _ _ _ h => h) (Or.inl ⟨by rfl, ?hy14⟩) (by assumption) ?rest14
      case hy14 => (intro w hSw; (try dsimp only at hSw); go_simp; (first | done | with_reducible rfl))
      simp only [Act.put, List.setIfInBounds_toArray, List.set_cons_zero, List.set_cons_succ, List.getElem_toArray, List.getElem_cons_zero, List.getElem_cons_succ]
      refine wpAnyH_take (i := 15) (v := ?v15) rfl (by kernel_rfl) (by kernel_rfl) (by kernel_rfl) (fun _ _ _ h => h) (Or.inl ⟨by rfl, ?hy15⟩) (by assumption) ?rest15
      case hy15 => (intro w hSw; (try dsimp only at hSw); go_simp; (first | done | with_reducible rfl))
      simp only [Act.put, List.setIfInBounds_toArray, List.set_cons_zero, List.set_cons_succ, List.getElem_toArray, List.getElem_cons_zero, List.getElem_cons_succ]
      refine wpAnyH_done (by kernel_rfl) ?_ _
      have HTd := Lib.hid HT.out.drew
      have HBd := Lib.hid HBW.out.drew
      clear u0 u1 f0 f1 t0 t1 t2 t3 t4 v1 v2 v3 hHeld HT HBW
      have hzd : wr.heap.size = wr.drew.heap.size := rfl
      rw [hzd] at hzr
      clear hzd
      generalize wr.drew = wd at *
      have u1 := HTd.out.u1
      rw [show IntKind.i64.wrap (mulq mom x2 q + x3) = y1 from (IntKind.wrap_i64 _).trans (by have h := HX1.out; unfold wrap64 at h; exact h.symm)]
      go_wp2_with (at_builtin; go_loud (refine append_one_lies elem64 rfl _ _ rfl rfl rfl rfl HTd.out.om rfl ?_ ?_ ?_ ?_ ?_; (simp [Value.oneCell']); (unfold maxLen; omega); omega; (have := HTd.out.lt; have := HTd.out.hU; omega); intro b cap w6 ho6 hg6 hat6; have c61 := (cell_apart (o := 1) hg6 HTd.out.lt HTd.out.mu).trans u1; have f61 := (frozen_apart (o := 1) hg6 HTd.out.lt HTd.out.mu).trans HTd.out.f1; have HT6 := Lib.hid (HTd.out.appM (ys' := ms.take (k + 1)) hg6 (by rw [HT1.out, List.map_append]; exact ho6) hat6); have HB6 := Lib.hid (below_set (o := 1) (x := .slice (some ⟨b, 0, none⟩) (k + 1) cap) (HBd.out.grown hg6 (by have := HTd.out.lt; omega) (fun j e => by have := (HTd.out.om.lt j e).1; omega)) (show NN ≤ U by omega)); clear ho6 hg6 hat6 u1))
      generalize w6.setCell ⟨U, 1, none⟩ (.slice (some ⟨b, 0, none⟩) (k + 1) cap) = w8 at *
      have u0 := HT6.out.u0
      have f0 := HT6.out.f0
      have t0 := (HT6.out.bb.cell (p := ⟨NN, 0, none⟩) (show NN < _ by omega)).trans r0
      have t2 := (HT6.out.bb.cell (p := ⟨NN, 2, none⟩) (show NN < _ by omega)).trans r2
      have t3 := (HT6.out.bb.cell (p := ⟨NN + 1, 0, none⟩) (show NN + 1 < _ by omega)).trans s0
      have v1 := (HB6.out.cell (p := ⟨b1, o1 + k, none⟩) (by omega)).trans HV1.out
      have hz8 := HT6.out.bb.size
      have hl8 := HT6.out.lt
      clear c61 f61 HTd HBd
      refine wp_region_held_drew (S := fun w' => w'.cell? ⟨NN, 0, none⟩ = some (.int .i64 rate) ∧ w'.cell? ⟨NN, 2, none⟩ = some (.int .i64 q) ∧ w'.cell? ⟨NN + 1, 0, none⟩ = some (.slice (some ⟨b1, o1, none⟩) zp.length c1) ∧ w'.cell? ⟨b1, o1 + k, none⟩ = some (.int .i64 x1)) (by kernel_rfl) ?_ (fun hHeld => ?_)
      · exact ⟨t0, t2, t3, v1⟩
      have e2 : IntKind.i64.wrap (x1 - mulq rate y1 q) = y2 := (IntKind.wrap_i64 _).trans (by have h := HX2.out; unfold wrap64 at h; exact h.symm)
      have E2 := Lib.hid e2
      clear e2
      have HTe := Lib.hid HT6.out.drew
      have HBe := Lib.hid HB6.out.drew
      have ud : w8.drew.cell? ⟨U, 0, none⟩ = some (.slice ap k cp) := u0
      have AL8 := (Below.refl w8.drew.heap.size w8.drew).alloc (Nat.le_refl _) (.cells #[.int .i64 y2] 2)
      refine wpAnyH_take (i := 0) (v := ?v16) rfl (by kernel_rfl) (by kernel_rfl) (by kernel_rfl) (fun _ _ _ h => h) (Or.inl ⟨by rfl, ?hy16⟩) (by assumption) ?rest16
      case hy16 => (intro w hSw; (try dsimp only at hSw); go_simp; (first | done | with_reducible rfl))
      simp only [Act.put, List.setIfInBounds_toArray, List.set_cons_zero, List.set_cons_succ, List.getElem_toArray, List.getElem_cons_zero]
      refine wpAnyH_take (i := 2) (v := ?v17) rfl (by kernel_rfl) (by kernel_rfl) (by kernel_rfl) (fun _ _ _ h => h) (Or.inl ⟨by rfl, ?hy17⟩) (by assumption) ?rest17
      case hy17 => (intro w hSw; (try dsimp only at hSw); go_simp; (first | done | with_reducible rfl))
      simp only [Act.put, List.setIfInBounds_toArray, List.set_cons_zero, List.set_cons_succ, List.getElem_toArray, List.getElem_cons_zero, List.getElem_cons_succ]
      refine wpAnyH_take (i := 3) (v := ?v18) rfl (by kernel_rfl) (by kernel_rfl) (by kernel_rfl) (fun _ _ _ h => h) (Or.inl ⟨by rfl, ?hy18⟩) (by assumption) ?rest18
      case hy18 => (intro w hSw; (try dsimp only at hSw); go_simp; (first | done | with_reducible rfl))
      simp only [Act.put, List.setIfInBounds_toArray, List.set_cons_zero, List.set_cons_succ, List.getElem_toArray, List.getElem_cons_zero, List.getElem_cons_succ]
      refine wpAnyH_take (i := 4) (v := ?v19) rfl (by kernel_rfl) (by kernel_rfl) (by kernel_rfl) (fun _ _ _ h => h) (Or.inl ⟨by rfl, ?hy19⟩) (by assumption) ?rest19
      case hy19 => (intro w hSw; (try dsimp only at hSw); go_simp; (first | done | with_reducible rfl))
      simp only [Act.put, List.setIfInBounds_toArray, List.set_cons_zero, List.set_cons_succ, List.getElem_toArray, List.getElem_cons_zero, List.getElem_cons_succ]
      refine wpAnyH_take (i := 5) (v := ?v20) rfl (by kernel_rfl) (by kernel_rfl) (by kernel_rfl) (fun _ _ _ h => h) (Or.inl ⟨by rfl, ?hy20⟩) (by assumption) ?rest20
      case hy20 => (intro w hSw; (try dsimp only at hSw); go_simp; (first | done | with_reducible rfl))
      simp only [Act.put, List.setIfInBounds_toArray, List.set_cons_zero, List.set_cons_succ, List.getElem_toArray, List.getElem_cons_zero, List.getElem_cons_succ]
      refine wpAnyH_take (i := 6) (v := ?v21) rfl (by kernel_rfl) (by kernel_rfl) (by kernel_rfl) (fun _ _ _ h => h) (Or.inl ⟨by rfl, ?hy21⟩) (by assumption) ?rest21
      case hy21 => (intro w hSw; (try dsimp only at hSw); go_simp; (first | done | with_reducible rfl))
      simp only [Act.put, List.setIfInBounds_toArray, List.set_cons_zero, List.set_cons_succ, List.getElem_toArray, List.getElem_cons_zero, List.getElem_cons_succ]
      refine wpAnyH_take (i := 7) (v := ?v22) rfl (by kernel_rfl) (by kernel_rfl) (by kernel_rfl) (fun _ _ _ h => h) (Or.inl ⟨by rfl, ?hy22⟩) (by assumption) ?rest22
      case hy22 => (intro w hSw; (try dsimp only at hSw); go_simp; (first | done | with_reducible rfl))
      simp only [Act.put, List.setIfInBounds_toArray, List.set_cons_zero, List.set_cons_succ, List.getElem_toArray, List.getElem_cons_zero, List.getElem_cons_succ]
      refine wpAnyH_take (i := 8) (v := ?v23) rfl (by kernel_rfl) (by kernel_rfl) (by kernel_rfl) (fun _ _ _ h => h) (Or.inl ⟨by rfl, ?hy23⟩) (by assumption) ?rest23
      case hy23 => (intro w hSw; (try dsimp only at hSw); go_simp; (first | done | with_reducible rfl))
      simp only [Act.put, List.setIfInBounds_toArray, List.set_cons_zero, List.set_cons_succ, List.getElem_toArray, List.getElem_cons_zero, List.getElem_cons_succ]
      refine wpAnyH_take (i := 9) (v := ?v24) rfl (by kernel_rfl) (by kernel_rfl) (by kernel_rfl) (fun _ _ _ h => h) (Or.inl ⟨by rfl, ?hy24⟩) (by assumption) ?rest24
      case hy24 => (intro w hSw; (try dsimp only at hSw); go_simp; (first | done | with_reducible rfl))
      simp only [Act.put, List.setIfInBounds_toArray, List.set_cons_zero, List.set_cons_succ, List.getElem_toArray, List.getElem_cons_zero, List.getElem_cons_succ]
      refine wpAnyH_take (i := 10) (v := ?v25) rfl (by kernel_rfl) (by kernel_rfl) (by kernel_rfl) (fun _ _ _ h => h) (Or.inl ⟨by rfl, ?hy25⟩) (by assumption) ?rest25
      case hy25 => (intro w hSw; (try dsimp only at hSw); go_simp; (first | done | with_reducible rfl))
      simp only [Act.put, List.setIfInBounds_toArray, List.set_cons_zero, List.set_cons_succ, List.getElem_toArray, List.getElem_cons_zero, List.getElem_cons_succ]
      refine wpAnyH_take (i := 11) (v := ?v26) rfl (by kernel_rfl) (by kernel_rfl) (by kernel_rfl) (fun _ _ _ h => h) (Or.inl ⟨by rfl, ?hy26⟩) (by assumption) ?rest26
      case hy26 => (intro w hSw; (try dsimp only at hSw); go_simp; (first | done | with_reducible rfl))
      simp only [Act.put, List.setIfInBounds_toArray, List.set_cons_zero, List.set_cons_succ, List.getElem_toArray, List.getElem_cons_zero, List.getElem_cons_succ]
      refine wpAnyH_ready (rs := [1, 12]) (by kernel_rfl) (by simp) ?_
      refine AllReadyH.cons rfl (fun K hK => ?_) ?_
      · try simp only [Act.put, List.setIfInBounds_toArray, List.set_cons_zero, List.set_cons_succ, List.getElem_toArray, List.getElem_cons_zero, List.getElem_cons_succ]
        go_simp
        refine hK.out _ _ hHeld (fun hHeld => ?_)
        clear hK K
        try simp only [Act.put, List.setIfInBounds_toArray, List.set_cons_zero, List.set_cons_succ, List.getElem_toArray, List.getElem_cons_zero, List.getElem_cons_succ]
        refine wpAnyH_ready (rs := [12]) (by kernel_rfl) (by simp) ?_
        refine AllReadyH.cons rfl (fun K hK => ?_) AllReadyH.nil
        simp only [List.getElem_toArray, List.getElem_cons_zero, List.getElem_cons_succ]
        go_simp
        go_at_call 31
        refine (refMul_any rate y1 q hr.1 hr.2 hwm.1 hwm.2 _).mono ?_
        rintro e w5 ⟨rfl, rfl⟩
        go_wp2_with fail
        refine hK.out _ _ hHeld (fun hHeld => ?_)
        clear hK K
        try simp only [Act.put, List.setIfInBounds_toArray, List.set_cons_zero, List.set_cons_succ, List.getElem_toArray, List.getElem_cons_zero, List.getElem_cons_succ]
        refine wpAnyH_take (i := 13) (v := ?v27) rfl (by kernel_rfl) (by kernel_rfl) (by kernel_rfl) (fun _ _ _ h => h) (Or.inl ⟨by rfl, ?hy27⟩) (by assumption) ?rest27
        case hy27 => (intro w hSw; (try dsimp only at hSw); go_simp; (first | done | with_reducible rfl))
        simp only [Act.put, List.setIfInBounds_toArray, List.set_cons_zero, List.set_cons_succ, List.getElem_toArray, List.getElem_cons_zero, List.getElem_cons_succ]
        rw [E2.out]
        refine wpAnyH_ready (rs := [14]) (by kernel_rfl) (by simp) ?_
        refine AllReadyH.cons rfl (fun K hK => ?_) AllReadyH.nil
        simp only [List.getElem_toArray, List.getElem_cons_zero, List.getElem_cons_succ]
        go_simp
        refine hK.out _ _ ⟨cell_step AL8 hHeld.1, cell_step AL8 hHeld.2.1, cell_step AL8 hHeld.2.2.1, cell_step AL8 hHeld.2.2.2⟩ (fun hHeld => ?_)
        clear hK K
        have ua := cell_step AL8 ud
        try simp only [Act.put, List.setIfInBounds_toArray, List.set_cons_zero, List.set_cons_succ, List.getElem_toArray, List.getElem_cons_zero, List.getElem_cons_succ]
        generalize hwa : (w8.alloc (.cells #[.int .i64 y2] 2)).drew = wa at *
        replace ua : wa.cell? ⟨U, 0, none⟩ = some (.slice ap k cp) := by rw [← hwa]; exact ua
        refine wpAnyH_ready (rs := [15]) (by kernel_rfl) (by simp) ?_
        refine AllReadyH.cons rfl (fun K hK => ?_) AllReadyH.nil
        simp only [List.getElem_toArray, List.getElem_cons_zero, List.getElem_cons_succ]
        try simp only [Act.put, List.setIfInBounds_toArray, List.set_cons_zero, List.set_cons_succ]
        refine step_one_lies (a := ⟨_, _⟩) (W := w8.drew) (v := .slice ap k cp) (g := w8.drew.heap.size) (news := #[.int .i64 y2]) elem64 (by rfl) _ _ (by rfl) (by rfl) (by rfl) rfl hwa.symm HTe.out.op rfl ?_ ?_ ?_ ?_ ?_
        · simp [Value.oneCell']
        · unfold maxLen; omega
        · omega
        · have := HTe.out.lt; have := HTe.out.hU; omega
        intro b' cap' w9 ho9 hg9 hat9
        have c91 := (cell_apart (o := 0) hg9 HTe.out.lt HTe.out.pu).trans HTe.out.u0
        have f91 := (frozen_apart (o := 0) hg9 HTe.out.lt HTe.out.pu).trans HTe.out.f0
        have hu9 : U ≤ w8.drew.heap.size := by have := HTe.out.lt; omega
        have B9 := HTe.out.bb.grown hg9 hu9 (fun j e => (HTe.out.op.lt j e).1)
        have C9 := HBe.out.grown hg9 (by omega) (fun j e => by have := (HTe.out.op.lt j e).1; omega)
        have HT9 := Lib.hid (HTe.out.appP (xs' := ps.take (k + 1)) hg9 (by rw [HT2.out, List.map_append]; exact ho9) hat9)
        refine hK.out _ _ ⟨(B9.cell (p := ⟨NN, 0, none⟩) (show NN < _ by omega)).trans r0, (B9.cell (p := ⟨NN, 2, none⟩) (show NN < _ by omega)).trans r2, (B9.cell (p := ⟨NN + 1, 0, none⟩) (show NN + 1 < _ by omega)).trans s0, (C9.cell (p := ⟨b1, o1 + k, none⟩) (by omega)).trans HV1.out⟩ (fun hHeld => ?_)
        clear hK K ho9 hg9 hat9
        try simp only [Act.put, List.setIfInBounds_toArray, List.set_cons_zero, List.set_cons_succ]
        refine wpAnyH_take (i := 16) (v := ?v28) rfl (by kernel_rfl) (by kernel_rfl) (by kernel_rfl) (fun _ _ _ h => h) (Or.inl ⟨by rfl, ?hy28⟩) (by assumption) ?rest28
        case hy28 => (intro w hSw; (try dsimp only at hSw); go_simp; (first | done | with_reducible rfl))
        simp only [Act.put, List.setIfInBounds_toArray, List.set_cons_zero, List.set_cons_succ, List.getElem_toArray, List.getElem_cons_zero, List.getElem_cons_succ]
        refine wpAnyH_ready (rs := [17]) (by kernel_rfl) (by simp) ?_
        refine AllReadyH.cons rfl (fun K hK => ?_) AllReadyH.nil
        simp only [List.getElem_toArray, List.getElem_cons_zero, List.getElem_cons_succ]
        go_simp
        refine hK.out _ _ ⟨(HT9.out.bb.cell (p := ⟨NN, 0, none⟩) (show NN < _ by omega)).trans r0, (HT9.out.bb.cell (p := ⟨NN, 2, none⟩) (show NN < _ by omega)).trans r2, (HT9.out.bb.cell (p := ⟨NN + 1, 0, none⟩) (show NN + 1 < _ by omega)).trans s0, ((below_set C9 (show NN ≤ U by omega)).cell (p := ⟨b1, o1 + k, none⟩) (by omega)).trans HV1.out⟩ (fun hHeld => ?_)
        clear hK K hHeld
        try simp only [Act.put, List.setIfInBounds_toArray, List.set_cons_zero, List.set_cons_succ, List.getElem_toArray, List.getElem_cons_zero, List.getElem_cons_succ]
        refine wpAnyH_done (by kernel_rfl) ?_ _
        generalize w9.setCell ⟨U, 0, none⟩ (.slice (some ⟨b', 0, none⟩) (k + 1) cap') = w10 at *
        clear c91 f91 u0 f0 t0 t2 t3 v1 ud ua hwa
        go_wp2_with fail
        refine ⟨⟨k + 1, some ⟨b', 0, none⟩, cap', some ⟨b, 0, none⟩, cap, by omega, by go_num, HT9.out⟩, ?_⟩
        show zp.length - ((k : Int) + 1).toNat < zp.length - ((k : Int)).toNat
        omega
      · refine AllReadyH.cons rfl (fun K hK => ?_) AllReadyH.nil
        try simp only [Act.put, List.setIfInBounds_toArray, List.set_cons_zero, List.set_cons_succ, List.getElem_toArray, List.getElem_cons_zero, List.getElem_cons_succ]
        go_simp
        go_at_call 31
        refine (refMul_any rate y1 q hr.1 hr.2 hwm.1 hwm.2 _).mono ?_
        rintro e w5 ⟨rfl, rfl⟩
        go_wp2_with fail
        refine hK.out _ _ hHeld (fun hHeld => ?_)
        clear hK K
        try simp only [Act.put, List.setIfInBounds_toArray, List.set_cons_zero, List.set_cons_succ, List.getElem_toArray, List.getElem_cons_zero, List.getElem_cons_succ]
        refine wpAnyH_take (i := 13) (v := ?v29) rfl (by kernel_rfl) (by kernel_rfl) (by kernel_rfl) (fun _ _ _ h => h) (Or.inl ⟨by rfl, ?hy29⟩) (by assumption) ?rest29
        case hy29 => (intro w hSw; (try dsimp only at hSw); go_simp; (first | done | with_reducible rfl))
        simp only [Act.put, List.setIfInBounds_toArray, List.set_cons_zero, List.set_cons_succ, List.getElem_toArray, List.getElem_cons_zero, List.getElem_cons_succ]
        rw [E2.out]
        refine wpAnyH_ready (rs := [1, 14]) (by kernel_rfl) (by simp) ?_
        refine AllReadyH.cons rfl (fun K hK => ?_) ?_
        · try simp only [Act.put, List.setIfInBounds_toArray, List.set_cons_zero, List.set_cons_succ, List.getElem_toArray, List.getElem_cons_zero, List.getElem_cons_succ]
          go_simp
          refine hK.out _ _ hHeld (fun hHeld => ?_)
          clear hK K
          try simp only [Act.put, List.setIfInBounds_toArray, List.set_cons_zero, List.set_cons_succ, List.getElem_toArray, List.getElem_cons_zero, List.getElem_cons_succ]
          refine wpAnyH_ready (rs := [14]) (by kernel_rfl) (by simp) ?_
          refine AllReadyH.cons rfl (fun K hK => ?_) AllReadyH.nil
          simp only [List.getElem_toArray, List.getElem_cons_zero, List.getElem_cons_succ]
          go_simp
          refine hK.out _ _ ⟨cell_step AL8 hHeld.1, cell_step AL8 hHeld.2.1, cell_step AL8 hHeld.2.2.1, cell_step AL8 hHeld.2.2.2⟩ (fun hHeld => ?_)
          clear hK K
          have ua := cell_step AL8 ud
          try simp only [Act.put, List.setIfInBounds_toArray, List.set_cons_zero, List.set_cons_succ, List.getElem_toArray, List.getElem_cons_zero, List.getElem_cons_succ]
          generalize hwa : (w8.alloc (.cells #[.int .i64 y2] 2)).drew = wa at *
          replace ua : wa.cell? ⟨U, 0, none⟩ = some (.slice ap k cp) := by rw [← hwa]; exact ua
          refine wpAnyH_ready (rs := [15]) (by kernel_rfl) (by simp) ?_
          refine AllReadyH.cons rfl (fun K hK => ?_) AllReadyH.nil
          simp only [List.getElem_toArray, List.getElem_cons_zero, List.getElem_cons_succ]
          try simp only [Act.put, List.setIfInBounds_toArray, List.set_cons_zero, List.set_cons_succ]
          refine step_one_lies (a := ⟨_, _⟩) (W := w8.drew) (v := .slice ap k cp) (g := w8.drew.heap.size) (news := #[.int .i64 y2]) elem64 (by rfl) _ _ (by rfl) (by rfl) (by rfl) rfl hwa.symm HTe.out.op rfl ?_ ?_ ?_ ?_ ?_
          · simp [Value.oneCell']
          · unfold maxLen; omega
          · omega
          · have := HTe.out.lt; have := HTe.out.hU; omega
          intro b' cap' w9 ho9 hg9 hat9
          have c91 := (cell_apart (o := 0) hg9 HTe.out.lt HTe.out.pu).trans HTe.out.u0
          have f91 := (frozen_apart (o := 0) hg9 HTe.out.lt HTe.out.pu).trans HTe.out.f0
          have hu9 : U ≤ w8.drew.heap.size := by have := HTe.out.lt; omega
          have B9 := HTe.out.bb.grown hg9 hu9 (fun j e => (HTe.out.op.lt j e).1)
          have C9 := HBe.out.grown hg9 (by omega) (fun j e => by have := (HTe.out.op.lt j e).1; omega)
          have HT9 := Lib.hid (HTe.out.appP (xs' := ps.take (k + 1)) hg9 (by rw [HT2.out, List.map_append]; exact ho9) hat9)
          refine hK.out _ _ ⟨(B9.cell (p := ⟨NN, 0, none⟩) (show NN < _ by omega)).trans r0, (B9.cell (p := ⟨NN, 2, none⟩) (show NN < _ by omega)).trans r2, (B9.cell (p := ⟨NN + 1, 0, none⟩) (show NN + 1 < _ by omega)).trans s0, (C9.cell (p := ⟨b1, o1 + k, none⟩) (by omega)).trans HV1.out⟩ (fun hHeld => ?_)
          clear hK K ho9 hg9 hat9
          try simp only [Act.put, List.setIfInBounds_toArray, List.set_cons_zero, List.set_cons_succ]
          refine wpAnyH_take (i := 16) (v := ?v30) rfl (by kernel_rfl) (by kernel_rfl) (by kernel_rfl) (fun _ _ _ h => h) (Or.inl ⟨by rfl, ?hy30⟩) (by assumption) ?rest30
          case hy30 => (intro w hSw; (try dsimp only at hSw); go_simp; (first | done | with_reducible rfl))
          simp only [Act.put, List.setIfInBounds_toArray, List.set_cons_zero, List.set_cons_succ, List.getElem_toArray, List.getElem_cons_zero, List.getElem_cons_succ]
          refine wpAnyH_ready (rs := [17]) (by kernel_rfl) (by simp) ?_
          refine AllReadyH.cons rfl (fun K hK => ?_) AllReadyH.nil
          simp only [List.getElem_toArray, List.getElem_cons_zero, List.getElem_cons_succ]
          go_simp
          refine hK.out _ _ ⟨(HT9.out.bb.cell (p := ⟨NN, 0, none⟩) (show NN < _ by omega)).trans r0, (HT9.out.bb.cell (p := ⟨NN, 2, none⟩) (show NN < _ by omega)).trans r2, (HT9.out.bb.cell (p := ⟨NN + 1, 0, none⟩) (show NN + 1 < _ by omega)).trans s0, ((below_set C9 (show NN ≤ U by omega)).cell (p := ⟨b1, o1 + k, none⟩) (by omega)).trans HV1.out⟩ (fun hHeld => ?_)
          clear hK K hHeld
          try simp only [Act.put, List.setIfInBounds_toArray, List.set_cons_zero, List.set_cons_succ, List.getElem_toArray, List.getElem_cons_zero, List.getElem_cons_succ]
          refine wpAnyH_done (by kernel_rfl) ?_ _
          generalize w9.setCell ⟨U, 0, none⟩ (.slice (some ⟨b', 0, none⟩) (k + 1) cap') = w10 at *
          clear c91 f91 u0 f0 t0 t2 t3 v1 ud ua hwa
          go_wp2_with fail
          refine ⟨⟨k + 1, some ⟨b', 0, none⟩, cap', some ⟨b, 0, none⟩, cap, by omega, by go_num, HT9.out⟩, ?_⟩
          show zp.length - ((k : Int) + 1).toNat < zp.length - ((k : Int)).toNat
          omega
        · refine AllReadyH.cons rfl (fun K hK => ?_) AllReadyH.nil
          try simp only [Act.put, List.setIfInBounds_toArray, List.set_cons_zero, List.set_cons_succ, List.getElem_toArray, List.getElem_cons_zero, List.getElem_cons_succ]
          go_simp
          refine hK.out _ _ ⟨cell_step AL8 hHeld.1, cell_step AL8 hHeld.2.1, cell_step AL8 hHeld.2.2.1, cell_step AL8 hHeld.2.2.2⟩ (fun hHeld => ?_)
          clear hK K
          have ua := cell_step AL8 ud
          try simp only [Act.put, List.setIfInBounds_toArray, List.set_cons_zero, List.set_cons_succ, List.getElem_toArray, List.getElem_cons_zero, List.getElem_cons_succ]
          generalize hwa : (w8.alloc (.cells #[.int .i64 y2] 2)).drew = wa at *
          replace ua : wa.cell? ⟨U, 0, none⟩ = some (.slice ap k cp) := by rw [← hwa]; exact ua
          refine wpAnyH_ready (rs := [1]) (by kernel_rfl) (by simp) ?_
          refine AllReadyH.cons rfl (fun K hK => ?_) AllReadyH.nil
          simp only [List.getElem_toArray, List.getElem_cons_zero, List.getElem_cons_succ]
          go_simp
          refine hK.out _ _ hHeld (fun hHeld => ?_)
          clear hK K
          try simp only [Act.put, List.setIfInBounds_toArray, List.set_cons_zero, List.set_cons_succ, List.getElem_toArray, List.getElem_cons_zero, List.getElem_cons_succ]
          refine wpAnyH_ready (rs := [15]) (by kernel_rfl) (by simp) ?_
          refine AllReadyH.cons rfl (fun K hK => ?_) AllReadyH.nil
          simp only [List.getElem_toArray, List.getElem_cons_zero, List.getElem_cons_succ]
          try simp only [Act.put, List.setIfInBounds_toArray, List.set_cons_zero, List.set_cons_succ]
          refine step_one_lies (a := ⟨_, _⟩) (W := w8.drew) (v := .slice ap k cp) (g := w8.drew.heap.size) (news := #[.int .i64 y2]) elem64 (by rfl) _ _ (by rfl) (by rfl) (by rfl) rfl hwa.symm HTe.out.op rfl ?_ ?_ ?_ ?_ ?_
          · simp [Value.oneCell']
          · unfold maxLen; omega
          · omega
          · have := HTe.out.lt; have := HTe.out.hU; omega
          intro b' cap' w9 ho9 hg9 hat9
          have c91 := (cell_apart (o := 0) hg9 HTe.out.lt HTe.out.pu).trans HTe.out.u0
          have f91 := (frozen_apart (o := 0) hg9 HTe.out.lt HTe.out.pu).trans HTe.out.f0
          have hu9 : U ≤ w8.drew.heap.size := by have := HTe.out.lt; omega
          have B9 := HTe.out.bb.grown hg9 hu9 (fun j e => (HTe.out.op.lt j e).1)
          have C9 := HBe.out.grown hg9 (by omega) (fun j e => by have := (HTe.out.op.lt j e).1; omega)
          have HT9 := Lib.hid (HTe.out.appP (xs' := ps.take (k + 1)) hg9 (by rw [HT2.out, List.map_append]; exact ho9) hat9)
          refine hK.out _ _ ⟨(B9.cell (p := ⟨NN, 0, none⟩) (show NN < _ by omega)).trans r0, (B9.cell (p := ⟨NN, 2, none⟩) (show NN < _ by omega)).trans r2, (B9.cell (p := ⟨NN + 1, 0, none⟩) (show NN + 1 < _ by omega)).trans s0, (C9.cell (p := ⟨b1, o1 + k, none⟩) (by omega)).trans HV1.out⟩ (fun hHeld => ?_)
          clear hK K ho9 hg9 hat9
          try simp only [Act.put, List.setIfInBounds_toArray, List.set_cons_zero, List.set_cons_succ]
          refine wpAnyH_take (i := 16) (v := ?v31) rfl (by kernel_rfl) (by kernel_rfl) (by kernel_rfl) (fun _ _ _ h => h) (Or.inl ⟨by rfl, ?hy31⟩) (by assumption) ?rest31
          case hy31 => (intro w hSw; (try dsimp only at hSw); go_simp; (first | done | with_reducible rfl))
          simp only [Act.put, List.setIfInBounds_toArray, List.set_cons_zero, List.set_cons_succ, List.getElem_toArray, List.getElem_cons_zero, List.getElem_cons_succ]
          refine wpAnyH_ready (rs := [17]) (by kernel_rfl) (by simp) ?_
          refine AllReadyH.cons rfl (fun K hK => ?_) AllReadyH.nil
          simp only [List.getElem_toArray, List.getElem_cons_zero, List.getElem_cons_succ]
          go_simp
          refine hK.out _ _ ⟨(HT9.out.bb.cell (p := ⟨NN, 0, none⟩) (show NN < _ by omega)).trans r0, (HT9.out.bb.cell (p := ⟨NN, 2, none⟩) (show NN < _ by omega)).trans r2, (HT9.out.bb.cell (p := ⟨NN + 1, 0, none⟩) (show NN + 1 < _ by omega)).trans s0, ((below_set C9 (show NN ≤ U by omega)).cell (p := ⟨b1, o1 + k, none⟩) (by omega)).trans HV1.out⟩ (fun hHeld => ?_)
          clear hK K hHeld
          try simp only [Act.put, List.setIfInBounds_toArray, List.set_cons_zero, List.set_cons_succ, List.getElem_toArray, List.getElem_cons_zero, List.getElem_cons_succ]
          refine wpAnyH_done (by kernel_rfl) ?_ _
          generalize w9.setCell ⟨U, 0, none⟩ (.slice (some ⟨b', 0, none⟩) (k + 1) cap') = w10 at *
          clear c91 f91 u0 f0 t0 t2 t3 v1 ud ua hwa
          go_wp2_with fail
          refine ⟨⟨k + 1, some ⟨b', 0, none⟩, cap', some ⟨b, 0, none⟩, cap, by omega, by go_num, HT9.out⟩, ?_⟩
          show zp.length - ((k : Int) + 1).toNat < zp.length - ((k : Int)).toNat
          omega
    · have hk' : k = zp.length := by omega
      have hmk : ms.take k = ms := by rw [hk', ← HML.out]; exact List.take_length
      have hpk : ps.take k = ps := by rw [hk', ← HPL.out]; exact List.take_length
      have q0' := (HT.out.bb.cell (p := ⟨NN + 1 + 1, 0, none⟩) (show NN + 1 + 1 < _ by omega)).trans q0
      have q1' := (HT.out.bb.cell (p := ⟨NN + 1 + 1, 1, none⟩) (show NN + 1 + 1 < _ by omega)).trans q1
      have y0' := (HT.out.bb.frozen (p := ⟨NN + 1 + 1, 0, none⟩) (show NN + 1 + 1 < _ by omega)).trans qf0
      have y1' := (HT.out.bb.frozen (p := ⟨NN + 1 + 1, 1, none⟩) (show NN + 1 + 1 < _ by omega)).trans qf1
      have ST := stored2 (.slice ap k cp) (.slice am k cm) q0' q1' y0' y1'
      have G := grown_trans (grown_set wr (NN + 1 + 1) 0 (.slice ap k cp)) (grown_set _ (NN + 1 + 1) 1 (.slice am k cm))
      have RP := owns_mono (show NN ≤ U by omega) (row_kept HT.out.op G (by omega))
      have RM := owns_mono (show NN ≤ U by omega) (row_kept HT.out.om G (by omega))
      rw [hpk] at RP
      rw [hmk] at RM
      have HFN : Hid (OwnState NN (.agg #[.slice ap k cp, .slice am k cm]) ps ms ((wr.setCell ⟨NN + 1 + 1, 0, none⟩ (.slice ap k cp)).setCell ⟨NN + 1 + 1, 1, none⟩ (.slice am k cm))) := Lib.hid ⟨_, _, rfl, by rw [HPL.out, ← hk']; exact RP, by rw [HML.out, ← hk']; exact RM⟩
      have HBF := Lib.hid (HBW.out.trans (ST.2.2.2.2.mono (show NN ≤ NN + 1 + 1 by omega)))
      clear RP RM G hk' hmk hpk
      go_wp2_with fail
      (try simp only [Exit.inBlock, Exit.then])
      refine bodyPost_ret (v := .tuple #[.agg #[.slice ap k cp, .slice am k cm], .bool true]) (by simp [results, Try.results13, ST.1, ST.2.1, go_sem]) rfl ?_
      unfold NextIs
      rw [if_pos HN.out, hN, ← HMS.out, ← HPS.out]
      exact ⟨_, rfl, HFN.out, HBF.out⟩
end Go.Proofs.Ytmffgbmjomaehaa
