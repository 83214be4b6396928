/- Layer 11: the reference's Input. -/
import Derived.Test.YtolmdhhbhohndaaCnfH
namespace Go.Proofs.Ytolmdhhbhohndaa
open Go.RowKit
set_option linter.unusedVariables false
set_option maxHeartbeats 4000000 in
theorem refInputC_any (v vd vt vr : Value) (ss : List Int) (es : List Ex) (ps ds : List Int) (hm : ss.length ≤ maxLen) (hme : es.length ≤ maxLen) (hmp : ps.length ≤ maxLen) (hmd : ds.length ≤ maxLen) (sh ra mo wk ba mi st bu ch wi ca : Int) (w : World) (hv : IntsW .i64 w.heap.size w v ss) (hd : ExsAt w.heap.size w vd es) (hp : IntsW .i64 w.heap.size w vt ps) (hr : IntsW .u64 w.heap.size w vr ds) :
    Calls Try.prog 11 #[.agg #[v, .int .i64 sh, .int .i64 ra, .int .i64 mo, .int .i64 wk, .int .i64 ba, .int .i64 mi, .int .i64 st, .int .i64 bu, .int .i64 ch, .int .i64 wi, .int .i64 ca, vd, vt, vr]] w fun e w' => e = .returned (.int .i64 (codeI ss sh wk ba mi st bu ch wi ca es ps.length ds.length)) ∧ Below w.heap.size w w' := by
  have AL1 := (Below.refl w.heap.size w).alloc (Nat.le_refl _) (.cells #[v, .int .i64 sh, .int .i64 ra, .int .i64 mo, .int .i64 wk, .int .i64 ba, .int .i64 mi, .int .i64 st, .int .i64 bu, .int .i64 ch, .int .i64 wi, .int .i64 ca, vd, vt, vr] 34)
  have al1 := (Below.refl (w.alloc (.cells #[v, .int .i64 sh, .int .i64 ra, .int .i64 mo, .int .i64 wk, .int .i64 ba, .int .i64 mi, .int .i64 st, .int .i64 bu, .int .i64 ch, .int .i64 wi, .int .i64 ca, vd, vt, vr] 34)).heap.size (w.alloc (.cells #[v, .int .i64 sh, .int .i64 ra, .int .i64 mo, .int .i64 wk, .int .i64 ba, .int .i64 mi, .int .i64 st, .int .i64 bu, .int .i64 ch, .int .i64 wi, .int .i64 ca, vd, vt, vr] 34))).alloc (Nat.le_refl _) (.cells #[v, .int .i64 sh, .int .i64 ra, .int .i64 mo, .int .i64 wk, .int .i64 ba, .int .i64 mi, .int .i64 st, .int .i64 bu, .int .i64 ch, .int .i64 wi, .int .i64 ca] 24)
  have AL := below_step AL1 al1
  have C0 := Lib.hid ((CellsAt.new w #[v, .int .i64 sh, .int .i64 ra, .int .i64 mo, .int .i64 wk, .int .i64 ba, .int .i64 mi, .int .i64 st, .int .i64 bu, .int .i64 ch, .int .i64 wi, .int .i64 ca, vd, vt, vr] 34).later al1)
  have K0 := CellsAt.new (w.alloc (.cells #[v, .int .i64 sh, .int .i64 ra, .int .i64 mo, .int .i64 wk, .int .i64 ba, .int .i64 mi, .int .i64 st, .int .i64 bu, .int .i64 ch, .int .i64 wi, .int .i64 ca, vd, vt, vr] 34)) #[v, .int .i64 sh, .int .i64 ra, .int .i64 mo, .int .i64 wk, .int .i64 ba, .int .i64 mi, .int .i64 st, .int .i64 bu, .int .i64 ch, .int .i64 wi, .int .i64 ca] 24
  rw [World.size_alloc] at K0
  have K0 := Lib.hid K0
  have V0 := Lib.hid (hv.later AL)
  have D0 := Lib.hid (hd.later AL)
  have P0 := Lib.hid (hp.later AL)
  have R0 := Lib.hid (hr.later AL)
  have A0 := Lib.hid AL
  obtain ⟨a, c, rfl⟩ := hv.value
  obtain ⟨ad, cd, rfl⟩ := hd.value
  obtain ⟨ap, cp, rfl⟩ := hp.value
  obtain ⟨ar, cr, rfl⟩ := hr.value
  clear hv hd hp hr AL AL1 al1
  have HK := Lib.hid (fun W h => refCheckC_any (.slice a ss.length c) ss hm sh ra mo wk ba mi st bu ch wi ca W h)
  have HNE := Lib.hid (fun W h => refNeedC_any (.slice a ss.length c) ss hm sh ra mo wk ba mi st bu ch wi ca (es.length : Int) (by unfold maxLen at hme; omega) W h)
  have HZR := Lib.hid (fun h => codeC_zero (ss := ss) (sh := sh) (wk := wk) (ba := ba) (mi := mi) (st := st) (bu := bu) (ch := ch) (wi := wi) (ca := ca) h)
  have HIC := Lib.hid (fun cd h hz => codeI_c (ss := ss) (sh := sh) (wk := wk) (ba := ba) (mi := mi) (st := st) (bu := bu) (ch := ch) (wi := wi) (ca := ca) (es := es) (np := ps.length) (nd := ds.length) (cd := cd) h hz)
  have HIZ := Lib.hid (fun h => codeI_z (ss := ss) (sh := sh) (wk := wk) (ba := ba) (mi := mi) (st := st) (bu := bu) (ch := ch) (wi := wi) (ca := ca) (es := es) (np := ps.length) (nd := ds.length) h)
  have HBW := Lib.hid (fun x lo hi W => between_any x lo hi W)
  have HCD := Lib.hid (fun p q W h => refCheckD_any (.slice ad es.length cd) es p q hme W h)
  unfold Checked at HCD
  generalize codeI ss sh wk ba mi st bu ch wi ca es ps.length ds.length = ci at *
  have hl := hme
  unfold maxLen at hl
  go_enter Try.func11, Try.ntmps11
  go_upto_region 2 with fail
  generalize ((w.alloc (.cells #[.slice a ss.length c, .int .i64 sh, .int .i64 ra, .int .i64 mo, .int .i64 wk, .int .i64 ba, .int .i64 mi, .int .i64 st, .int .i64 bu, .int .i64 ch, .int .i64 wi, .int .i64 ca, .slice ad es.length cd, .slice ap ps.length cp, .slice ar ds.length cr] 34)).alloc (.cells #[.slice a ss.length c, .int .i64 sh, .int .i64 ra, .int .i64 mo, .int .i64 wk, .int .i64 ba, .int .i64 mi, .int .i64 st, .int .i64 bu, .int .i64 ch, .int .i64 wi, .int .i64 ca] 24)) = W2 at *
  obtain ⟨k0, k1, k2, k3, k4, k5, k6, k7, k8, k9, k10, k11⟩ : W2.cell? ⟨w.heap.size + 1, 0, none⟩ = some (.slice a ss.length c) ∧ W2.cell? ⟨w.heap.size + 1, 1, none⟩ = some (.int .i64 sh) ∧ W2.cell? ⟨w.heap.size + 1, 2, none⟩ = some (.int .i64 ra) ∧ W2.cell? ⟨w.heap.size + 1, 3, none⟩ = some (.int .i64 mo) ∧ W2.cell? ⟨w.heap.size + 1, 4, none⟩ = some (.int .i64 wk) ∧ W2.cell? ⟨w.heap.size + 1, 5, none⟩ = some (.int .i64 ba) ∧ W2.cell? ⟨w.heap.size + 1, 6, none⟩ = some (.int .i64 mi) ∧ W2.cell? ⟨w.heap.size + 1, 7, none⟩ = some (.int .i64 st) ∧ W2.cell? ⟨w.heap.size + 1, 8, none⟩ = some (.int .i64 bu) ∧ W2.cell? ⟨w.heap.size + 1, 9, none⟩ = some (.int .i64 ch) ∧ W2.cell? ⟨w.heap.size + 1, 10, none⟩ = some (.int .i64 wi) ∧ W2.cell? ⟨w.heap.size + 1, 11, none⟩ = some (.int .i64 ca) := ⟨K0.out.2 0 _ rfl, K0.out.2 1 _ rfl, K0.out.2 2 _ rfl, K0.out.2 3 _ rfl, K0.out.2 4 _ rfl, K0.out.2 5 _ rfl, K0.out.2 6 _ rfl, K0.out.2 7 _ rfl, K0.out.2 8 _ rfl, K0.out.2 9 _ rfl, K0.out.2 10 _ rfl, K0.out.2 11 _ rfl⟩
  have hw2 : w.heap.size + 1 < W2.heap.size := K0.out.1
  go_wp2_with fail
  refine (HK.out _ V0.out).mono ?_
  rintro e w3 ⟨rfl, b3⟩
  have B3 := Lib.hid (below_step A0.out b3)
  have C3 := Lib.hid (C0.out.later b3)
  have K3 := Lib.hid (K0.out.later b3)
  have V3 := Lib.hid (V0.out.later b3)
  have D3 := Lib.hid (D0.out.later b3)
  have P3 := Lib.hid (P0.out.later b3)
  have R3 := Lib.hid (R0.out.later b3)
  clear b3 C0 K0 V0 D0 P0 R0 A0 k0 k1 k2 k3 k4 k5 k6 k7 k8 k9 k10 k11 HK
  by_cases hz : codeC ss sh wk ba mi st bu ch wi ca = 0
  · have HCZ := Lib.hid hz
    have HR := Lib.hid (HZR.out hz).1
    have EI1 := Lib.hid (HIZ.out hz)
    rw [hz] at HNE ⊢
    clear hz HZR HIC HIZ
    have c12 := C3.out.2 12 _ rfl
    have k5 := K3.out.2 5 _ rfl
    have hw3 : w.heap.size + 1 < w3.heap.size := K3.out.1
    have HBB := Lib.hid (show betB (es.length : Int) ba 1048576 = withinB ba [(es.length : Int)] from (by show inB ba (es.length : Int) = _; unfold withinB; simp))
    have HB := Lib.hid (HBW.out (es.length : Int) ba 1048576 w3)
    rw [HBB.out] at HB
    have B4 := B3
    go_wp2_with fail
    refine HB.out.mono ?_
    rintro e w4 ⟨rfl, rfl⟩
    clear c12 k5 HB HBB HBW
    cases hb : withinB ba [(es.length : Int)]
    · have H := Lib.hid (show ci = 7 from EI1.out.trans (if_pos hb))
      clear hb
      go_wp2_with fail
      go_ret
      exact ⟨by rw [H.out]; rfl, B4.out⟩
    · have EI2 := Lib.hid (show ci = codeI2 ss ba st es ps.length ds.length from EI1.out.trans (if_neg (by rw [hb]; simp)))
      clear hb EI1
      have hl2 := HR.out.l2
      have hl16 := HR.out.l16
      have HVP := V3.out.pos (by omega)
      rcases HVP.form with ⟨_, e0⟩ | ⟨b, off, cap, e0, hcap, hbl, hcs⟩
      · rw [e0] at hl2; simp at hl2
      cases e0
      have HVP2 := Lib.hid HVP
      have x0 := hcs 0 (by omega)
      have x1 := hcs (ss.length - 1) (by omega)
      rw [Nat.add_zero] at x0
      have hbw : b < w3.heap.size := hbl
      have c12 := C3.out.2 12 _ rfl
      have k0 := K3.out.2 0 _ rfl
      have hw3' : w.heap.size + 1 < w3.heap.size := K3.out.1
      have wl : IntKind.i64.wrap ((ss.length : Int) - 1) = ((ss.length - 1 : Nat) : Int) := by
        rw [show ((ss.length - 1 : Nat) : Int) = (ss.length : Int) - 1 by omega]
        exact IntWalk.i64_in _ (by omega)
      have i0 : (0 : Int) < ss.length := by omega
      have i0n : 0 < ss.length := by omega
      have i1 : ((ss.length - 1 : Nat) : Int) < ss.length := by omega
      have i2 : ss.length - 1 < ss.length := by omega
      have HFB := Lib.hid (show fitsB ss es ps.length = (goodD es (ss[0]?.getD 0) (ss[ss.length - 1]?.getD 0) && ((ps.length : Int) == stTo ss (ss.length - 1))) from rfl)
      have HCDD := Lib.hid (HCD.out (ss[0]?.getD 0) (ss[ss.length - 1]?.getD 0))
      have HCT := Lib.hid (fun W h => refCount_any (.slice (some ⟨b, off, none⟩) ss.length c) ss hl2 hl16 HR.out.good W h)
      clear HCD HVP hcs
      generalize goodD es (ss[0]?.getD 0) (ss[ss.length - 1]?.getD 0) = gd at *
      generalize ss[0]?.getD 0 = s0 at *
      generalize ss[ss.length - 1]?.getD 0 = sl at *
      generalize stTo ss (ss.length - 1) = z at *
      go_upto_region 7 with fail
      generalize ss.length - 1 = lk at *
      refine wp_region_held_drew (S := fun w' => w'.cell? ⟨w.heap.size, 12, none⟩ = some (.slice ad es.length cd) ∧ w'.cell? ⟨w.heap.size + 1, 0, none⟩ = some (.slice (some ⟨b, off, none⟩) ss.length c) ∧ w'.cell? ⟨b, off, none⟩ = some (.int .i64 s0) ∧ w'.cell? ⟨b, off + lk, none⟩ = some (.int .i64 sl) ∧ Below w3.heap.size w3 w') (by kernel_rfl) ?_ (fun hHeld => ?_)
      · exact ⟨c12, k0, x0, x1, (Below.refl _ _).drew⟩
      refine wpAnyH_take (i := 0) (v := ?v1) rfl (by kernel_rfl) (by kernel_rfl) (by kernel_rfl) (fun _ _ _ h => h) (Or.inl ⟨by rfl, ?hy1⟩) (by assumption) ?rest1
      case hy1 => (intro w hSw; (try dsimp only at hSw); go_simp; (first | done | with_reducible rfl))
      simp only [Act.put, List.setIfInBounds_toArray, List.set_cons_zero, List.set_cons_succ, List.getElem_toArray, List.getElem_cons_zero]
      refine wpAnyH_take (i := 1) (v := ?v2) rfl (by kernel_rfl) (by kernel_rfl) (by kernel_rfl) (fun _ _ _ h => h) (Or.inl ⟨by rfl, ?hy2⟩) (by assumption) ?rest2
      case hy2 => (intro w hSw; (try dsimp only at hSw); go_simp; (first | done | with_reducible rfl))
      simp only [Act.put, List.setIfInBounds_toArray, List.set_cons_zero, List.set_cons_succ, List.getElem_toArray, List.getElem_cons_zero, List.getElem_cons_succ]
      refine wpAnyH_take (i := 2) (v := ?v3) rfl (by kernel_rfl) (by kernel_rfl) (by kernel_rfl) (fun _ _ _ h => h) (Or.inl ⟨by rfl, ?hy3⟩) (by assumption) ?rest3
      case hy3 => (intro w hSw; (try dsimp only at hSw); go_simp; (first | done | with_reducible rfl))
      simp only [Act.put, List.setIfInBounds_toArray, List.set_cons_zero, List.set_cons_succ, List.getElem_toArray, List.getElem_cons_zero, List.getElem_cons_succ]
      refine wpAnyH_take (i := 3) (v := ?v4) rfl (by kernel_rfl) (by kernel_rfl) (by kernel_rfl) (fun _ _ _ h => h) (Or.inl ⟨by rfl, ?hy4⟩) (by assumption) ?rest4
      case hy4 => (intro w hSw; (try dsimp only at hSw); go_simp; (first | done | with_reducible rfl))
      simp only [Act.put, List.setIfInBounds_toArray, List.set_cons_zero, List.set_cons_succ, List.getElem_toArray, List.getElem_cons_zero, List.getElem_cons_succ]
      refine wpAnyH_take (i := 4) (v := ?v5) rfl (by kernel_rfl) (by kernel_rfl) (by kernel_rfl) (fun _ _ _ h => h) (Or.inl ⟨by rfl, ?hy5⟩) (by assumption) ?rest5
      case hy5 => (intro w hSw; (try dsimp only at hSw); go_simp; (first | done | with_reducible rfl))
      simp only [Act.put, List.setIfInBounds_toArray, List.set_cons_zero, List.set_cons_succ, List.getElem_toArray, List.getElem_cons_zero, List.getElem_cons_succ]
      refine wpAnyH_take (i := 5) (v := ?v6) rfl (by kernel_rfl) (by kernel_rfl) (by kernel_rfl) (fun _ _ _ h => h) (Or.inl ⟨by rfl, ?hy6⟩) (by assumption) ?rest6
      case hy6 => (intro w hSw; (try dsimp only at hSw); go_simp; (first | done | with_reducible rfl))
      simp only [Act.put, List.setIfInBounds_toArray, List.set_cons_zero, List.set_cons_succ, List.getElem_toArray, List.getElem_cons_zero, List.getElem_cons_succ]
      refine wpAnyH_take (i := 6) (v := ?v7) rfl (by kernel_rfl) (by kernel_rfl) (by kernel_rfl) (fun _ _ _ h => h) (Or.inl ⟨by rfl, ?hy7⟩) (by assumption) ?rest7
      case hy7 => (intro w hSw; (try dsimp only at hSw); go_simp; (first | done | with_reducible rfl))
      simp only [Act.put, List.setIfInBounds_toArray, List.set_cons_zero, List.set_cons_succ, List.getElem_toArray, List.getElem_cons_zero, List.getElem_cons_succ]
      refine wpAnyH_take (i := 7) (v := ?v8) rfl (by kernel_rfl) (by kernel_rfl) (by kernel_rfl) (fun _ _ _ h => h) (Or.inl ⟨by rfl, ?hy8⟩) (by assumption) ?rest8
      case hy8 => (intro w hSw; (try dsimp only at hSw); go_simp; (first | done | with_reducible rfl))
      simp only [Act.put, List.setIfInBounds_toArray, List.set_cons_zero, List.set_cons_succ, List.getElem_toArray, List.getElem_cons_zero, List.getElem_cons_succ]
      refine wpAnyH_take (i := 8) (v := ?v9) rfl (by kernel_rfl) (by kernel_rfl) (by kernel_rfl) (fun _ _ _ h => h) (Or.inl ⟨by rfl, ?hy9⟩) (by assumption) ?rest9
      case hy9 => (intro w hSw; (try dsimp only at hSw); go_simp; (first | done | with_reducible rfl))
      simp only [Act.put, List.setIfInBounds_toArray, List.set_cons_zero, List.set_cons_succ, List.getElem_toArray, List.getElem_cons_zero, List.getElem_cons_succ]
      refine wpAnyH_take (i := 9) (v := ?v10) rfl (by kernel_rfl) (by kernel_rfl) (by kernel_rfl) (fun _ _ _ h => h) (Or.inl ⟨by rfl, ?hy10⟩) (by assumption) ?rest10
      case hy10 => (intro w hSw; (try dsimp only at hSw); go_simp; (first | done | with_reducible rfl))
      simp only [Act.put, List.setIfInBounds_toArray, List.set_cons_zero, List.set_cons_succ, List.getElem_toArray, List.getElem_cons_zero, List.getElem_cons_succ]
      refine wpAnyH_take (i := 10) (v := ?v11) rfl (by kernel_rfl) (by kernel_rfl) (by kernel_rfl) (fun _ _ _ h => h) (Or.inl ⟨by rfl, ?hy11⟩) (by assumption) ?rest11
      case hy11 => (intro w hSw; (try dsimp only at hSw); go_simp; (first | done | with_reducible rfl))
      simp only [Act.put, List.setIfInBounds_toArray, List.set_cons_zero, List.set_cons_succ, List.getElem_toArray, List.getElem_cons_zero, List.getElem_cons_succ]
      refine wpAnyH_take (i := 11) (v := ?v12) rfl (by kernel_rfl) (by kernel_rfl) (by kernel_rfl) (fun _ _ _ h => h) (Or.inl ⟨by rfl, ?hy12⟩) (by assumption) ?rest12
      case hy12 => (intro w hSw; (try dsimp only at hSw); go_simp; (first | done | with_reducible rfl))
      simp only [Act.put, List.setIfInBounds_toArray, List.set_cons_zero, List.set_cons_succ, List.getElem_toArray, List.getElem_cons_zero, List.getElem_cons_succ]
      refine wpAnyH_take (i := 12) (v := ?v13) rfl (by kernel_rfl) (by kernel_rfl) (by kernel_rfl) (fun _ _ _ h => h) (Or.inl ⟨by rfl, ?hy13⟩) (by assumption) ?rest13
      case hy13 => (intro w hSw; (try dsimp only at hSw); go_simp; (first | done | with_reducible rfl))
      simp only [Act.put, List.setIfInBounds_toArray, List.set_cons_zero, List.set_cons_succ, List.getElem_toArray, List.getElem_cons_zero, List.getElem_cons_succ]
      refine wpAnyH_take (i := 13) (v := ?v14) rfl (by kernel_rfl) (by kernel_rfl) (by kernel_rfl) (fun _ _ _ h => h) (Or.inl ⟨by rfl, ?hy14⟩) (by assumption) ?rest14
      case hy14 => (intro w hSw; (try dsimp only at hSw); go_simp; (first | done | with_reducible rfl))
      simp only [Act.put, List.setIfInBounds_toArray, List.set_cons_zero, List.set_cons_succ, List.getElem_toArray, List.getElem_cons_zero, List.getElem_cons_succ]
      refine wpAnyH_ready (rs := [14]) (by kernel_rfl) (by simp) ?_
      refine AllReadyH.cons rfl (fun K hK => ?_) AllReadyH.nil
      simp only [List.getElem_toArray, List.getElem_cons_zero, List.getElem_cons_succ]
      obtain ⟨h_0, h_1, h_2, h_3, h_B⟩ := hHeld
      go_simp
      go_at_call 22
      refine (HCDD.out _ (D3.out.later h_B)).mono ?_
      rintro e w4 ⟨i, rfl, b4⟩
      go_wp2_with fail
      refine hK.out _ _ ⟨cell_step b4 h_0, cell_step b4 h_1, cell_step b4 h_2, cell_step b4 h_3, below_step h_B b4⟩ (fun hHeld => ?_)
      clear hK K h_0 h_1 h_2 h_3 h_B b4
      try simp only [Act.put, List.setIfInBounds_toArray, List.set_cons_zero, List.set_cons_succ, List.getElem_toArray, List.getElem_cons_zero, List.getElem_cons_succ]
      refine wpAnyH_take (i := 15) (v := ?v15) rfl (by kernel_rfl) (by kernel_rfl) (by kernel_rfl) (fun _ _ _ h => h) (Or.inl ⟨by rfl, ?hy15⟩) (by assumption) ?rest15
      case hy15 => (intro w hSw; (try dsimp only at hSw); go_simp; (first | done | with_reducible rfl))
      simp only [Act.put, List.setIfInBounds_toArray, List.set_cons_zero, List.set_cons_succ, List.getElem_toArray, List.getElem_cons_zero, List.getElem_cons_succ]
      refine wpAnyH_take (i := 16) (v := ?v16) rfl (by kernel_rfl) (by kernel_rfl) (by kernel_rfl) (fun _ _ _ h => h) (Or.inl ⟨by rfl, ?hy16⟩) (by assumption) ?rest16
      case hy16 => (intro w hSw; (try dsimp only at hSw); go_simp; (first | done | with_reducible rfl))
      simp only [Act.put, List.setIfInBounds_toArray, List.set_cons_zero, List.set_cons_succ, List.getElem_toArray, List.getElem_cons_zero, List.getElem_cons_succ]
      refine wpAnyH_take (i := 17) (v := ?v17) rfl (by kernel_rfl) (by kernel_rfl) (by kernel_rfl) (fun _ _ _ h => h) (Or.inl ⟨by rfl, ?hy17⟩) (by assumption) ?rest17
      case hy17 => (intro w hSw; (try dsimp only at hSw); go_simp; (first | done | with_reducible rfl))
      simp only [Act.put, List.setIfInBounds_toArray, List.set_cons_zero, List.set_cons_succ, List.getElem_toArray, List.getElem_cons_zero, List.getElem_cons_succ]
      refine wpAnyH_take (i := 18) (v := ?v18) rfl (by kernel_rfl) (by kernel_rfl) (by kernel_rfl) (fun _ _ _ h => h) (Or.inl ⟨by rfl, ?hy18⟩) (by assumption) ?rest18
      case hy18 => (intro w hSw; (try dsimp only at hSw); go_simp; (first | done | with_reducible rfl))
      simp only [Act.put, List.setIfInBounds_toArray, List.set_cons_zero, List.set_cons_succ, List.getElem_toArray, List.getElem_cons_zero, List.getElem_cons_succ]
      refine wpAnyH_take (i := 19) (v := ?v19) rfl (by kernel_rfl) (by kernel_rfl) (by kernel_rfl) (fun _ _ _ h => h) (Or.inl ⟨by rfl, ?hy19⟩) (by assumption) ?rest19
      case hy19 => (intro w hSw; (try dsimp only at hSw); go_simp; (first | done | with_reducible rfl))
      simp only [Act.put, List.setIfInBounds_toArray, List.set_cons_zero, List.set_cons_succ, List.getElem_toArray, List.getElem_cons_zero, List.getElem_cons_succ]
      refine wpAnyH_done (by kernel_rfl) ?_ _
      have B4' := Lib.hid (below_step B4.out hHeld.2.2.2.2)
      have C4 := Lib.hid (C3.out.later hHeld.2.2.2.2)
      have K4 := Lib.hid (K3.out.later hHeld.2.2.2.2)
      have V4 := Lib.hid (V3.out.later hHeld.2.2.2.2)
      have D4 := Lib.hid (D3.out.later hHeld.2.2.2.2)
      have P4 := Lib.hid (P3.out.later hHeld.2.2.2.2)
      have R4 := Lib.hid (R3.out.later hHeld.2.2.2.2)
      have VP4 := Lib.hid (HVP2.out.later hHeld.2.2.2.2)
      clear hHeld c12 k0 x0 x1 C3 K3 V3 D3 P3 R3 B3 B4 HCDD HVP2
      cases gd
      · have H := Lib.hid (show ci = 5 from EI2.out.trans (if_pos (by rw [HFB.out]; rfl)))
        go_wp2_with fail
        go_quiet (fail)
        have B5 := Lib.hid (below_drewN B4'.out nq)
        generalize (World.drewN _ nq) = W5 at *
        go_wp2_with fail
        go_ret
        exact ⟨by rw [H.out]; rfl, B5.out⟩
      have HFZ := Lib.hid (show fitsB ss es ps.length = ((ps.length : Int) == z) by rw [HFB.out]; rfl)
      have c13 := C4.out.2 13 _ rfl
      have k0 := K4.out.2 0 _ rfl
      go_upto_region 8 with fail
      refine wp_region_held_drew (S := fun w' => w'.cell? ⟨w.heap.size, 13, none⟩ = some (.slice ap ps.length cp) ∧ w'.cell? ⟨w.heap.size + 1, 0, none⟩ = some (.slice (some ⟨b, off, none⟩) ss.length c) ∧ Below w4.heap.size w4 w') (by kernel_rfl) ?_ (fun hHeld => ?_)
      · exact ⟨c13, k0, (Below.refl _ _).drew⟩
      refine wpAnyH_take (i := 0) (v := ?v20) rfl (by kernel_rfl) (by kernel_rfl) (by kernel_rfl) (fun _ _ _ h => h) (Or.inl ⟨by rfl, ?hy20⟩) (by assumption) ?rest20
      case hy20 => (intro w hSw; (try dsimp only at hSw); go_simp; (first | done | with_reducible rfl))
      simp only [Act.put, List.setIfInBounds_toArray, List.set_cons_zero, List.set_cons_succ, List.getElem_toArray, List.getElem_cons_zero]
      refine wpAnyH_take (i := 1) (v := ?v21) rfl (by kernel_rfl) (by kernel_rfl) (by kernel_rfl) (fun _ _ _ h => h) (Or.inl ⟨by rfl, ?hy21⟩) (by assumption) ?rest21
      case hy21 => (intro w hSw; (try dsimp only at hSw); go_simp; (first | done | with_reducible rfl))
      simp only [Act.put, List.setIfInBounds_toArray, List.set_cons_zero, List.set_cons_succ, List.getElem_toArray, List.getElem_cons_zero, List.getElem_cons_succ]
      refine wpAnyH_take (i := 2) (v := ?v22) rfl (by kernel_rfl) (by kernel_rfl) (by kernel_rfl) (fun _ _ _ h => h) (Or.inl ⟨by rfl, ?hy22⟩) (by assumption) ?rest22
      case hy22 => (intro w hSw; (try dsimp only at hSw); go_simp; (first | done | with_reducible rfl))
      simp only [Act.put, List.setIfInBounds_toArray, List.set_cons_zero, List.set_cons_succ, List.getElem_toArray, List.getElem_cons_zero, List.getElem_cons_succ]
      refine wpAnyH_take (i := 3) (v := ?v23) rfl (by kernel_rfl) (by kernel_rfl) (by kernel_rfl) (fun _ _ _ h => h) (Or.inl ⟨by rfl, ?hy23⟩) (by assumption) ?rest23
      case hy23 => (intro w hSw; (try dsimp only at hSw); go_simp; (first | done | with_reducible rfl))
      simp only [Act.put, List.setIfInBounds_toArray, List.set_cons_zero, List.set_cons_succ, List.getElem_toArray, List.getElem_cons_zero, List.getElem_cons_succ]
      refine wpAnyH_take (i := 4) (v := ?v24) rfl (by kernel_rfl) (by kernel_rfl) (by kernel_rfl) (fun _ _ _ h => h) (Or.inl ⟨by rfl, ?hy24⟩) (by assumption) ?rest24
      case hy24 => (intro w hSw; (try dsimp only at hSw); go_simp; (first | done | with_reducible rfl))
      simp only [Act.put, List.setIfInBounds_toArray, List.set_cons_zero, List.set_cons_succ, List.getElem_toArray, List.getElem_cons_zero, List.getElem_cons_succ]
      refine wpAnyH_take (i := 5) (v := ?v25) rfl (by kernel_rfl) (by kernel_rfl) (by kernel_rfl) (fun _ _ _ h => h) (Or.inl ⟨by rfl, ?hy25⟩) (by assumption) ?rest25
      case hy25 => (intro w hSw; (try dsimp only at hSw); go_simp; (first | done | with_reducible rfl))
      simp only [Act.put, List.setIfInBounds_toArray, List.set_cons_zero, List.set_cons_succ, List.getElem_toArray, List.getElem_cons_zero, List.getElem_cons_succ]
      refine wpAnyH_take (i := 6) (v := ?v26) rfl (by kernel_rfl) (by kernel_rfl) (by kernel_rfl) (fun _ _ _ h => h) (Or.inl ⟨by rfl, ?hy26⟩) (by assumption) ?rest26
      case hy26 => (intro w hSw; (try dsimp only at hSw); go_simp; (first | done | with_reducible rfl))
      simp only [Act.put, List.setIfInBounds_toArray, List.set_cons_zero, List.set_cons_succ, List.getElem_toArray, List.getElem_cons_zero, List.getElem_cons_succ]
      refine wpAnyH_take (i := 7) (v := ?v27) rfl (by kernel_rfl) (by kernel_rfl) (by kernel_rfl) (fun _ _ _ h => h) (Or.inl ⟨by rfl, ?hy27⟩) (by assumption) ?rest27
      case hy27 => (intro w hSw; (try dsimp only at hSw); go_simp; (first | done | with_reducible rfl))
      simp only [Act.put, List.setIfInBounds_toArray, List.set_cons_zero, List.set_cons_succ, List.getElem_toArray, List.getElem_cons_zero, List.getElem_cons_succ]
      refine wpAnyH_ready (rs := [8]) (by kernel_rfl) (by simp) ?_
      refine AllReadyH.cons rfl (fun K hK => ?_) AllReadyH.nil
      simp only [List.getElem_toArray, List.getElem_cons_zero, List.getElem_cons_succ]
      obtain ⟨h_0, h_1, h_B⟩ := hHeld
      go_simp
      go_at_call 23
      refine (HCT.out _ (VP4.out.later h_B)).mono ?_
      rintro e w5 ⟨rfl, b5⟩
      go_wp2_with fail
      refine hK.out _ _ ⟨cell_step b5 h_0, cell_step b5 h_1, below_step h_B b5⟩ (fun hHeld => ?_)
      clear hK K h_0 h_1 h_B b5
      try simp only [Act.put, List.setIfInBounds_toArray, List.set_cons_zero, List.set_cons_succ, List.getElem_toArray, List.getElem_cons_zero, List.getElem_cons_succ]
      refine wpAnyH_take (i := 9) (v := ?v28) rfl (by kernel_rfl) (by kernel_rfl) (by kernel_rfl) (fun _ _ _ h => h) (Or.inl ⟨by rfl, ?hy28⟩) (by assumption) ?rest28
      case hy28 => (intro w hSw; (try dsimp only at hSw); go_simp; (first | done | with_reducible rfl))
      simp only [Act.put, List.setIfInBounds_toArray, List.set_cons_zero, List.set_cons_succ, List.getElem_toArray, List.getElem_cons_zero, List.getElem_cons_succ]
      refine wpAnyH_take (i := 10) (v := ?v29) rfl (by kernel_rfl) (by kernel_rfl) (by kernel_rfl) (fun _ _ _ h => h) (Or.inl ⟨by rfl, ?hy29⟩) (by assumption) ?rest29
      case hy29 => (intro w hSw; (try dsimp only at hSw); go_simp; (first | done | with_reducible rfl))
      simp only [Act.put, List.setIfInBounds_toArray, List.set_cons_zero, List.set_cons_succ, List.getElem_toArray, List.getElem_cons_zero, List.getElem_cons_succ]
      refine wpAnyH_done (by kernel_rfl) ?_ _
      have B5 := Lib.hid (below_step B4'.out hHeld.2.2)
      have C5 := Lib.hid (C4.out.later hHeld.2.2)
      have K5 := Lib.hid (K4.out.later hHeld.2.2)
      have V5 := Lib.hid (V4.out.later hHeld.2.2)
      have D5 := Lib.hid (D4.out.later hHeld.2.2)
      have P5 := Lib.hid (P4.out.later hHeld.2.2)
      have R5 := Lib.hid (R4.out.later hHeld.2.2)
      clear hHeld c13 k0 C4 K4 V4 D4 P4 R4 B4' VP4 HR HCT
      cases hf : fitsB ss es ps.length
      · have H := Lib.hid (show ci = 5 from EI2.out.trans (if_pos hf))
        have gx : ((ps.length : Int) != z) = true := by rw [HFZ.out] at hf; simpa using hf
        clear hf
        go_wp2_with fail
        go_ret
        exact ⟨by rw [H.out]; rfl, B5.out⟩
      · have EI3 := Lib.hid (show ci = if (ds.length : Int) < epC 0 ba st es.length * needZ es.length then 8 else 0 from EI2.out.trans (if_neg (by rw [hf]; simp)))
        have gx : ((ps.length : Int) != z) = false := by rw [HFZ.out] at hf; simpa using hf
        clear hf EI2
        generalize epC 0 ba st es.length * needZ es.length = nz at *
        have c12 := C5.out.2 12 _ rfl
        have c14 := C5.out.2 14 _ rfl
        obtain ⟨k0, k1, k2, k3, k4, k5, k6, k7, k8, k9, k10, k11⟩ : w5.cell? ⟨w.heap.size + 1, 0, none⟩ = some (.slice (some ⟨b, off, none⟩) ss.length c) ∧ w5.cell? ⟨w.heap.size + 1, 1, none⟩ = some (.int .i64 sh) ∧ w5.cell? ⟨w.heap.size + 1, 2, none⟩ = some (.int .i64 ra) ∧ w5.cell? ⟨w.heap.size + 1, 3, none⟩ = some (.int .i64 mo) ∧ w5.cell? ⟨w.heap.size + 1, 4, none⟩ = some (.int .i64 wk) ∧ w5.cell? ⟨w.heap.size + 1, 5, none⟩ = some (.int .i64 ba) ∧ w5.cell? ⟨w.heap.size + 1, 6, none⟩ = some (.int .i64 mi) ∧ w5.cell? ⟨w.heap.size + 1, 7, none⟩ = some (.int .i64 st) ∧ w5.cell? ⟨w.heap.size + 1, 8, none⟩ = some (.int .i64 bu) ∧ w5.cell? ⟨w.heap.size + 1, 9, none⟩ = some (.int .i64 ch) ∧ w5.cell? ⟨w.heap.size + 1, 10, none⟩ = some (.int .i64 wi) ∧ w5.cell? ⟨w.heap.size + 1, 11, none⟩ = some (.int .i64 ca) := ⟨K5.out.2 0 _ rfl, K5.out.2 1 _ rfl, K5.out.2 2 _ rfl, K5.out.2 3 _ rfl, K5.out.2 4 _ rfl, K5.out.2 5 _ rfl, K5.out.2 6 _ rfl, K5.out.2 7 _ rfl, K5.out.2 8 _ rfl, K5.out.2 9 _ rfl, K5.out.2 10 _ rfl, K5.out.2 11 _ rfl⟩
        go_upto_region 10 with fail
        refine wp_region_held_drew (S := fun w' => w'.cell? ⟨w.heap.size, 12, none⟩ = some (.slice ad es.length cd) ∧ w'.cell? ⟨w.heap.size, 14, none⟩ = some (.slice ar ds.length cr) ∧ w'.cell? ⟨w.heap.size + 1, 0, none⟩ = some (.slice (some ⟨b, off, none⟩) ss.length c) ∧ w'.cell? ⟨w.heap.size + 1, 1, none⟩ = some (.int .i64 sh) ∧ w'.cell? ⟨w.heap.size + 1, 2, none⟩ = some (.int .i64 ra) ∧ w'.cell? ⟨w.heap.size + 1, 3, none⟩ = some (.int .i64 mo) ∧ w'.cell? ⟨w.heap.size + 1, 4, none⟩ = some (.int .i64 wk) ∧ w'.cell? ⟨w.heap.size + 1, 5, none⟩ = some (.int .i64 ba) ∧ w'.cell? ⟨w.heap.size + 1, 6, none⟩ = some (.int .i64 mi) ∧ w'.cell? ⟨w.heap.size + 1, 7, none⟩ = some (.int .i64 st) ∧ w'.cell? ⟨w.heap.size + 1, 8, none⟩ = some (.int .i64 bu) ∧ w'.cell? ⟨w.heap.size + 1, 9, none⟩ = some (.int .i64 ch) ∧ w'.cell? ⟨w.heap.size + 1, 10, none⟩ = some (.int .i64 wi) ∧ w'.cell? ⟨w.heap.size + 1, 11, none⟩ = some (.int .i64 ca) ∧ Below w5.heap.size w5 w') (by kernel_rfl) ?_ (fun hHeld => ?_)
        · exact ⟨c12, c14, k0, k1, k2, k3, k4, k5, k6, k7, k8, k9, k10, k11, (Below.refl _ _).drew⟩
        refine wpAnyH_take (i := 0) (v := ?v30) rfl (by kernel_rfl) (by kernel_rfl) (by kernel_rfl) (fun _ _ _ h => h) (Or.inl ⟨by rfl, ?hy30⟩) (by assumption) ?rest30
        case hy30 => (intro w hSw; (try dsimp only at hSw); go_simp; (first | done | with_reducible rfl))
        simp only [Act.put, List.setIfInBounds_toArray, List.set_cons_zero, List.set_cons_succ, List.getElem_toArray, List.getElem_cons_zero]
        refine wpAnyH_take (i := 1) (v := ?v31) rfl (by kernel_rfl) (by kernel_rfl) (by kernel_rfl) (fun _ _ _ h => h) (Or.inl ⟨by rfl, ?hy31⟩) (by assumption) ?rest31
        case hy31 => (intro w hSw; (try dsimp only at hSw); go_simp; (first | done | with_reducible rfl))
        simp only [Act.put, List.setIfInBounds_toArray, List.set_cons_zero, List.set_cons_succ, List.getElem_toArray, List.getElem_cons_zero, List.getElem_cons_succ]
        refine wpAnyH_take (i := 2) (v := ?v32) rfl (by kernel_rfl) (by kernel_rfl) (by kernel_rfl) (fun _ _ _ h => h) (Or.inl ⟨by rfl, ?hy32⟩) (by assumption) ?rest32
        case hy32 => (intro w hSw; (try dsimp only at hSw); go_simp; (first | done | with_reducible rfl))
        simp only [Act.put, List.setIfInBounds_toArray, List.set_cons_zero, List.set_cons_succ, List.getElem_toArray, List.getElem_cons_zero, List.getElem_cons_succ]
        refine wpAnyH_take (i := 3) (v := ?v33) rfl (by kernel_rfl) (by kernel_rfl) (by kernel_rfl) (fun _ _ _ h => h) (Or.inl ⟨by rfl, ?hy33⟩) (by assumption) ?rest33
        case hy33 => (intro w hSw; (try dsimp only at hSw); go_simp; (first | done | with_reducible rfl))
        simp only [Act.put, List.setIfInBounds_toArray, List.set_cons_zero, List.set_cons_succ, List.getElem_toArray, List.getElem_cons_zero, List.getElem_cons_succ]
        refine wpAnyH_take (i := 4) (v := ?v34) rfl (by kernel_rfl) (by kernel_rfl) (by kernel_rfl) (fun _ _ _ h => h) (Or.inl ⟨by rfl, ?hy34⟩) (by assumption) ?rest34
        case hy34 => (intro w hSw; (try dsimp only at hSw); go_simp; (first | done | with_reducible rfl))
        simp only [Act.put, List.setIfInBounds_toArray, List.set_cons_zero, List.set_cons_succ, List.getElem_toArray, List.getElem_cons_zero, List.getElem_cons_succ]
        refine wpAnyH_take (i := 5) (v := ?v35) rfl (by kernel_rfl) (by kernel_rfl) (by kernel_rfl) (fun _ _ _ h => h) (Or.inl ⟨by rfl, ?hy35⟩) (by assumption) ?rest35
        case hy35 => (intro w hSw; (try dsimp only at hSw); go_simp; (first | done | with_reducible rfl))
        simp only [Act.put, List.setIfInBounds_toArray, List.set_cons_zero, List.set_cons_succ, List.getElem_toArray, List.getElem_cons_zero, List.getElem_cons_succ]
        refine wpAnyH_take (i := 6) (v := ?v36) rfl (by kernel_rfl) (by kernel_rfl) (by kernel_rfl) (fun _ _ _ h => h) (Or.inl ⟨by rfl, ?hy36⟩) (by assumption) ?rest36
        case hy36 => (intro w hSw; (try dsimp only at hSw); go_simp; (first | done | with_reducible rfl))
        simp only [Act.put, List.setIfInBounds_toArray, List.set_cons_zero, List.set_cons_succ, List.getElem_toArray, List.getElem_cons_zero, List.getElem_cons_succ]
        refine wpAnyH_ready (rs := [7]) (by kernel_rfl) (by simp) ?_
        refine AllReadyH.cons rfl (fun K hK => ?_) AllReadyH.nil
        simp only [List.getElem_toArray, List.getElem_cons_zero, List.getElem_cons_succ]
        obtain ⟨h_0, h_1, h_2, h_3, h_4, h_5, h_6, h_7, h_8, h_9, h_10, h_11, h_12, h_13, h_B⟩ := hHeld
        go_simp
        go_at_call 15
        refine (HNE.out _ (V5.out.later h_B)).mono ?_
        rintro e w6 ⟨rfl, b6⟩
        go_wp2_with fail
        refine hK.out _ _ ⟨cell_step b6 h_0, cell_step b6 h_1, cell_step b6 h_2, cell_step b6 h_3, cell_step b6 h_4, cell_step b6 h_5, cell_step b6 h_6, cell_step b6 h_7, cell_step b6 h_8, cell_step b6 h_9, cell_step b6 h_10, cell_step b6 h_11, cell_step b6 h_12, cell_step b6 h_13, below_step h_B b6⟩ (fun hHeld => ?_)
        clear hK K h_0 h_1 h_2 h_3 h_4 h_5 h_6 h_7 h_8 h_9 h_10 h_11 h_12 h_13 h_B b6
        try simp only [Act.put, List.setIfInBounds_toArray, List.set_cons_zero, List.set_cons_succ, List.getElem_toArray, List.getElem_cons_zero, List.getElem_cons_succ]
        refine wpAnyH_take (i := 8) (v := ?v37) rfl (by kernel_rfl) (by kernel_rfl) (by kernel_rfl) (fun _ _ _ h => h) (Or.inl ⟨by rfl, ?hy37⟩) (by assumption) ?rest37
        case hy37 => (intro w hSw; (try dsimp only at hSw); go_simp; (first | done | with_reducible rfl))
        simp only [Act.put, List.setIfInBounds_toArray, List.set_cons_zero, List.set_cons_succ, List.getElem_toArray, List.getElem_cons_zero, List.getElem_cons_succ]
        refine wpAnyH_done (by kernel_rfl) ?_ _
        obtain ⟨-, -, -, -, -, -, -, -, -, -, -, -, -, -, h_B⟩ := hHeld
        have B6 := Lib.hid (below_step B5.out h_B)
        clear h_B c12 c14 k0 k1 k2 k3 k4 k5 k6 k7 k8 k9 k10 k11
        by_cases hn : (ds.length : Int) < nz
        · have d1 : decide ((ds.length : Int) < nz) = true := by simpa using hn
          have H := Lib.hid (show ci = 8 by rw [EI3.out, if_pos hn])
          go_wp2_with fail
          go_ret
          exact ⟨by rw [H.out]; rfl, B6.out⟩
        · have d1 : decide ((ds.length : Int) < nz) = false := by simpa using hn
          have H := Lib.hid (show ci = 0 by rw [EI3.out, if_neg hn])
          go_wp2_with fail
          go_ret
          exact ⟨by rw [H.out]; rfl, B6.out⟩
  · have H := Lib.hid (HIC.out _ rfl hz)
    have g5 : (codeC ss sh wk ba mi st bu ch wi ca != 0) = true := by simpa using hz
    clear hz HNE HZR HIC HIZ
    generalize codeC ss sh wk ba mi st bu ch wi ca = cdd at *
    go_wp2_with fail
    go_ret
    exact ⟨by rw [H.out]; rfl, B3.out⟩
end Go.Proofs.Ytolmdhhbhohndaa
