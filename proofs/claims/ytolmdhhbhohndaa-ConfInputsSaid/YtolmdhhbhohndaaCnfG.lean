/- Layer 11: fits. -/
import Derived.Test.YtolmdhhbhohndaaCnfF
namespace Go.Proofs.Ytolmdhhbhohndaa
open Go.RowKit
set_option linter.unusedVariables false
/-- whether examples and parameters fit to the sizes -/
def fitsB (ss : List Int) (es : List Ex) (np : Nat) : Bool := goodD es (ss[0]?.getD 0) (ss[ss.length - 1]?.getD 0) && ((np : Int) == stTo ss (ss.length - 1))
theorem RightH.zero {ss : List Int} (h : RightH ss) : codeH ss = 0 := codeH_zero.2 h
set_option maxHeartbeats 4000000 in
theorem fits_any (v vd vt vr : Value) (ss : List Int) (es : List Ex) (ps ds : List Int) (hm : ss.length ≤ maxLen) (hme : es.length ≤ maxLen) (hmp : ps.length ≤ maxLen) (hmd : ds.length ≤ maxLen) (sh ra mo wk ba mi st bu ch wi ca : Int) (w : World) (hv : IntsW .i64 w.heap.size w v ss) (hd : ExsAt w.heap.size w vd es) (hp : IntsW .i64 w.heap.size w vt ps) (hr : IntsW .u64 w.heap.size w vr ds) (hR : RightH ss) :
    Calls Try.prog 21 #[.agg #[v, .int .i64 sh, .int .i64 ra, .int .i64 mo, .int .i64 wk, .int .i64 ba, .int .i64 mi, .int .i64 st, .int .i64 bu, .int .i64 ch, .int .i64 wi, .int .i64 ca, vd, vt, vr]] w fun e w' => e = .returned (.bool (fitsB ss es ps.length)) ∧ Below w.heap.size w w' := by
  have AL := (Below.refl w.heap.size w).alloc (Nat.le_refl _) (.cells #[v, .int .i64 sh, .int .i64 ra, .int .i64 mo, .int .i64 wk, .int .i64 ba, .int .i64 mi, .int .i64 st, .int .i64 bu, .int .i64 ch, .int .i64 wi, .int .i64 ca, vd, vt, vr] 34)
  have C0 := Lib.hid (CellsAt.new w #[v, .int .i64 sh, .int .i64 ra, .int .i64 mo, .int .i64 wk, .int .i64 ba, .int .i64 mi, .int .i64 st, .int .i64 bu, .int .i64 ch, .int .i64 wi, .int .i64 ca, vd, vt, vr] 34)
  have V0 := Lib.hid (hv.later AL)
  have D0 := Lib.hid (hd.later AL)
  have P0 := Lib.hid (hp.later AL)
  have R0 := Lib.hid (hr.later AL)
  have A0 := Lib.hid AL
  obtain ⟨a, c, rfl⟩ := hv.value
  obtain ⟨ad, cd, rfl⟩ := hd.value
  obtain ⟨ap, cp, rfl⟩ := hp.value
  obtain ⟨ar, cr, rfl⟩ := hr.value
  clear hv hd hp hr AL
  have hl2 := hR.l2
  have hl16 := hR.l16
  have HZ := Lib.hid hR.zero
  have HN := Lib.hid (fun W h => shapeNew_any (.slice a ss.length c) ss hm W h)
  rcases (V0.out.pos (by omega)).form with ⟨_, e0⟩ | ⟨b, off, cap, e0, hcap, hb, hcs⟩
  · rw [e0] at hl2; simp at hl2
  cases e0
  have HCS := Lib.hid hcs
  have HCD := Lib.hid (fun W h => checkD_any (.slice ad es.length cd) es (ss[0]?.getD 0) (ss[ss.length - 1]?.getD 0) hme W h)
  have HFB := Lib.hid (show fitsB ss es ps.length = (goodD es (ss[0]?.getD 0) (ss[ss.length - 1]?.getD 0) && ((ps.length : Int) == stTo ss (ss.length - 1))) from rfl)
  have HCT := Lib.hid (fun N b W h => count_shape N b ss (by omega) W h)
  unfold Checked at HCD
  clear hcs hR
  generalize fitsB ss es ps.length = fb at *
  generalize goodD es (ss[0]?.getD 0) (ss[ss.length - 1]?.getD 0) = gd at *
  have hbw := World.block_lt_of_cell? _ _ (HCS.out 0 (by omega))
  go_enter Try.func21, Try.ntmps21
  go_upto_region 2 with fail
  generalize hW0 : (w.alloc (.cells #[.slice (some ⟨b, off, none⟩) ss.length c, .int .i64 sh, .int .i64 ra, .int .i64 mo, .int .i64 wk, .int .i64 ba, .int .i64 mi, .int .i64 st, .int .i64 bu, .int .i64 ch, .int .i64 wi, .int .i64 ca, .slice ad es.length cd, .slice ap ps.length cp, .slice ar ds.length cr] 34)) = W0 at *
  clear hW0
  go_wp2_with fail
  refine (HN.out _ V0.out).mono ?_
  intro e w1 hN
  unfold ShapeNew at hN
  obtain ⟨hz, sb, rfl, sa, b1⟩ := hN.resolve_right (fun h => h.1 HZ.out)
  clear hN
  have B1 := Lib.hid (below_step A0.out b1)
  have C1 := Lib.hid (C0.out.later b1)
  have D1 := Lib.hid (D0.out.later b1)
  have SA := Lib.hid sa
  have hbL : b < W0.heap.size := hb
  have x0 := (b1.cell (p := ⟨b, off + 0, none⟩) hbL).trans (HCS.out 0 (by omega))
  have x1 := (b1.cell (p := ⟨b, off + (ss.length - 1), none⟩) hbL).trans (HCS.out (ss.length - 1) (by omega))
  have c12 := C1.out.2 12 _ rfl
  have wl : IntKind.i64.wrap ((ss.length : Int) - 1) = ((ss.length - 1 : Nat) : Int) := by
    rw [show ((ss.length - 1 : Nat) : Int) = (ss.length : Int) - 1 by omega]
    exact IntWalk.i64_in _ (by omega)
  have i0 : (0 : Int) < ss.length := by omega
  have i0n : 0 < ss.length := by omega
  have i1 : ((ss.length - 1 : Nat) : Int) < ss.length := by omega
  have i2 : ss.length - 1 < ss.length := by omega
  rw [Nat.add_zero] at x0
  clear b1 sa HN HCS C0 D0 V0 A0 P0 R0 hz
  generalize ss[0]?.getD 0 = s0 at *
  generalize ss[ss.length - 1]?.getD 0 = sl at *
  generalize stTo ss (ss.length - 1) = z at *
  go_upto_region 3 with fail
  generalize ss.length - 1 = lk at *
  refine wp_region_held_drew (S := fun w' => w'.cell? ⟨w.heap.size, 12, none⟩ = some (.slice ad es.length cd) ∧ w'.cell? ⟨b, off, none⟩ = some (.int .i64 s0) ∧ w'.cell? ⟨b, off + lk, none⟩ = some (.int .i64 sl) ∧ Below w1.heap.size w1 w') (by kernel_rfl) ?_ (fun hHeld => ?_)
  · exact ⟨c12, x0, x1, (Below.refl _ _).drew⟩
  refine wpAnyH_take (i := 0) (v := ?v1) rfl (by kernel_rfl) (by kernel_rfl) (by kernel_rfl) (fun _ _ _ h => h) (Or.inl ⟨by rfl, ?hy1⟩) (by assumption) ?rest1
  case hy1 => (intro w hSw; (try dsimp only at hSw); go_simp; (first | done | with_reducible rfl))
  simp only [Act.put, List.setIfInBounds_toArray, List.set_cons_zero, List.set_cons_succ, List.getElem_toArray, List.getElem_cons_zero]
  refine wpAnyH_take (i := 1) (v := ?v2) rfl (by kernel_rfl) (by kernel_rfl) (by kernel_rfl) (fun _ _ _ h => h) (Or.inl ⟨by rfl, ?hy2⟩) (by assumption) ?rest2
  case hy2 => (intro w hSw; (try dsimp only at hSw); go_simp; (first | done | with_reducible rfl))
  simp only [Act.put, List.setIfInBounds_toArray, List.set_cons_zero, List.set_cons_succ, List.getElem_toArray, List.getElem_cons_zero, List.getElem_cons_succ]
  refine wpAnyH_take (i := 2) (v := ?v3) rfl (by kernel_rfl) (by kernel_rfl) (by kernel_rfl) (fun _ _ _ h => h) (Or.inl ⟨by rfl, ?hy3⟩) (by assumption) ?rest3
  case hy3 => (intro w hSw; (try dsimp only at hSw); go_simp; (first | done | with_reducible rfl))
  simp only [Act.put, List.setIfInBounds_toArray, List.set_cons_zero, List.set_cons_succ, List.getElem_toArray, List.getElem_cons_zero, List.getElem_cons_succ]
  refine wpAnyH_take (i := 3) (v := ?v4) rfl (by kernel_rfl) (by kernel_rfl) (by kernel_rfl) (fun _ _ _ h => h) (Or.inl ⟨by rfl, ?hy4⟩) (by assumption) ?rest4
  case hy4 => (intro w hSw; (try dsimp only at hSw); go_simp; (first | done | with_reducible rfl))
  simp only [Act.put, List.setIfInBounds_toArray, List.set_cons_zero, List.set_cons_succ, List.getElem_toArray, List.getElem_cons_zero, List.getElem_cons_succ]
  refine wpAnyH_take (i := 4) (v := ?v5) rfl (by kernel_rfl) (by kernel_rfl) (by kernel_rfl) (fun _ _ _ h => h) (Or.inl ⟨by rfl, ?hy5⟩) (by assumption) ?rest5
  case hy5 => (intro w hSw; (try dsimp only at hSw); go_simp; (first | done | with_reducible rfl))
  simp only [Act.put, List.setIfInBounds_toArray, List.set_cons_zero, List.set_cons_succ, List.getElem_toArray, List.getElem_cons_zero, List.getElem_cons_succ]
  refine wpAnyH_take (i := 5) (v := ?v6) rfl (by kernel_rfl) (by kernel_rfl) (by kernel_rfl) (fun _ _ _ h => h) (Or.inl ⟨by rfl, ?hy6⟩) (by assumption) ?rest6
  case hy6 => (intro w hSw; (try dsimp only at hSw); go_simp; (first | done | with_reducible rfl))
  simp only [Act.put, List.setIfInBounds_toArray, List.set_cons_zero, List.set_cons_succ, List.getElem_toArray, List.getElem_cons_zero, List.getElem_cons_succ]
  refine wpAnyH_take (i := 6) (v := ?v7) rfl (by kernel_rfl) (by kernel_rfl) (by kernel_rfl) (fun _ _ _ h => h) (Or.inl ⟨by rfl, ?hy7⟩) (by assumption) ?rest7
  case hy7 => (intro w hSw; (try dsimp only at hSw); go_simp; (first | done | with_reducible rfl))
  simp only [Act.put, List.setIfInBounds_toArray, List.set_cons_zero, List.set_cons_succ, List.getElem_toArray, List.getElem_cons_zero, List.getElem_cons_succ]
  refine wpAnyH_take (i := 7) (v := ?v8) rfl (by kernel_rfl) (by kernel_rfl) (by kernel_rfl) (fun _ _ _ h => h) (Or.inl ⟨by rfl, ?hy8⟩) (by assumption) ?rest8
  case hy8 => (intro w hSw; (try dsimp only at hSw); go_simp; (first | done | with_reducible rfl))
  simp only [Act.put, List.setIfInBounds_toArray, List.set_cons_zero, List.set_cons_succ, List.getElem_toArray, List.getElem_cons_zero, List.getElem_cons_succ]
  refine wpAnyH_take (i := 8) (v := ?v9) rfl (by kernel_rfl) (by kernel_rfl) (by kernel_rfl) (fun _ _ _ h => h) (Or.inl ⟨by rfl, ?hy9⟩) (by assumption) ?rest9
  case hy9 => (intro w hSw; (try dsimp only at hSw); go_simp; (first | done | with_reducible rfl))
  simp only [Act.put, List.setIfInBounds_toArray, List.set_cons_zero, List.set_cons_succ, List.getElem_toArray, List.getElem_cons_zero, List.getElem_cons_succ]
  refine wpAnyH_take (i := 9) (v := ?v10) rfl (by kernel_rfl) (by kernel_rfl) (by kernel_rfl) (fun _ _ _ h => h) (Or.inl ⟨by rfl, ?hy10⟩) (by assumption) ?rest10
  case hy10 => (intro w hSw; (try dsimp only at hSw); go_simp; (first | done | with_reducible rfl))
  simp only [Act.put, List.setIfInBounds_toArray, List.set_cons_zero, List.set_cons_succ, List.getElem_toArray, List.getElem_cons_zero, List.getElem_cons_succ]
  refine wpAnyH_take (i := 10) (v := ?v11) rfl (by kernel_rfl) (by kernel_rfl) (by kernel_rfl) (fun _ _ _ h => h) (Or.inl ⟨by rfl, ?hy11⟩) (by assumption) ?rest11
  case hy11 => (intro w hSw; (try dsimp only at hSw); go_simp; (first | done | with_reducible rfl))
  simp only [Act.put, List.setIfInBounds_toArray, List.set_cons_zero, List.set_cons_succ, List.getElem_toArray, List.getElem_cons_zero, List.getElem_cons_succ]
  refine wpAnyH_ready (rs := [11]) (by kernel_rfl) (by simp) ?_
  refine AllReadyH.cons rfl (fun K hK => ?_) AllReadyH.nil
  simp only [List.getElem_toArray, List.getElem_cons_zero, List.getElem_cons_succ]
  obtain ⟨h_0, h_1, h_2, h_B⟩ := hHeld
  go_simp
  go_at_call 29
  refine (HCD.out _ (D1.out.later h_B)).mono ?_
  rintro e w2 ⟨i, rfl, b2⟩
  go_wp2_with fail
  refine hK.out _ _ ⟨cell_step b2 h_0, cell_step b2 h_1, cell_step b2 h_2, below_step h_B b2⟩ (fun hHeld => ?_)
  clear hK K h_0 h_1 h_2 h_B b2
  try simp only [Act.put, List.setIfInBounds_toArray, List.set_cons_zero, List.set_cons_succ, List.getElem_toArray, List.getElem_cons_zero, List.getElem_cons_succ]
  refine wpAnyH_take (i := 12) (v := ?v12) rfl (by kernel_rfl) (by kernel_rfl) (by kernel_rfl) (fun _ _ _ h => h) (Or.inl ⟨by rfl, ?hy12⟩) (by assumption) ?rest12
  case hy12 => (intro w hSw; (try dsimp only at hSw); go_simp; (first | done | with_reducible rfl))
  simp only [Act.put, List.setIfInBounds_toArray, List.set_cons_zero, List.set_cons_succ, List.getElem_toArray, List.getElem_cons_zero, List.getElem_cons_succ]
  refine wpAnyH_take (i := 13) (v := ?v13) rfl (by kernel_rfl) (by kernel_rfl) (by kernel_rfl) (fun _ _ _ h => h) (Or.inl ⟨by rfl, ?hy13⟩) (by assumption) ?rest13
  case hy13 => (intro w hSw; (try dsimp only at hSw); go_simp; (first | done | with_reducible rfl))
  simp only [Act.put, List.setIfInBounds_toArray, List.set_cons_zero, List.set_cons_succ, List.getElem_toArray, List.getElem_cons_zero, List.getElem_cons_succ]
  refine wpAnyH_take (i := 14) (v := ?v14) rfl (by kernel_rfl) (by kernel_rfl) (by kernel_rfl) (fun _ _ _ h => h) (Or.inl ⟨by rfl, ?hy14⟩) (by assumption) ?rest14
  case hy14 => (intro w hSw; (try dsimp only at hSw); go_simp; (first | done | with_reducible rfl))
  simp only [Act.put, List.setIfInBounds_toArray, List.set_cons_zero, List.set_cons_succ, List.getElem_toArray, List.getElem_cons_zero, List.getElem_cons_succ]
  refine wpAnyH_take (i := 15) (v := ?v15) rfl (by kernel_rfl) (by kernel_rfl) (by kernel_rfl) (fun _ _ _ h => h) (Or.inl ⟨by rfl, ?hy15⟩) (by assumption) ?rest15
  case hy15 => (intro w hSw; (try dsimp only at hSw); go_simp; (first | done | with_reducible rfl))
  simp only [Act.put, List.setIfInBounds_toArray, List.set_cons_zero, List.set_cons_succ, List.getElem_toArray, List.getElem_cons_zero, List.getElem_cons_succ]
  refine wpAnyH_take (i := 16) (v := ?v16) rfl (by kernel_rfl) (by kernel_rfl) (by kernel_rfl) (fun _ _ _ h => h) (Or.inl ⟨by rfl, ?hy16⟩) (by assumption) ?rest16
  case hy16 => (intro w hSw; (try dsimp only at hSw); go_simp; (first | done | with_reducible rfl))
  simp only [Act.put, List.setIfInBounds_toArray, List.set_cons_zero, List.set_cons_succ, List.getElem_toArray, List.getElem_cons_zero, List.getElem_cons_succ]
  refine wpAnyH_done (by kernel_rfl) ?_ _
  have C2 := Lib.hid (C1.out.later hHeld.2.2.2)
  have S2 := Lib.hid (SA.out.later hHeld.2.2.2)
  have B2 := Lib.hid (below_step B1.out hHeld.2.2.2)
  clear hHeld x0 x1 c12 C1 D1 B1 SA HCD
  cases gd
  · have HF := Lib.hid (show fb = false by rw [HFB.out]; rfl)
    go_wp2_with fail
    go_quiet (fail)
    have B3 := Lib.hid (below_drewN B2.out nq)
    generalize (World.drewN _ nq) = W3 at *
    go_wp2_with fail
    go_ret
    exact ⟨by rw [HF.out]; rfl, B3.out⟩
  · have HF := Lib.hid (show fb = ((ps.length : Int) == z) by rw [HFB.out]; rfl)
    have c13 := C2.out.2 13 _ rfl
    have HCC := Lib.hid (fun W h => HCT.out w1.heap.size sb W h)
    go_upto_region 4 with fail
    refine wp_region_held_drew (S := fun w' => w'.cell? ⟨w.heap.size, 13, none⟩ = some (.slice ap ps.length cp) ∧ Below w2.heap.size w2 w') (by kernel_rfl) ?_ (fun hHeld => ?_)
    · exact ⟨c13, (Below.refl _ _).drew⟩
    refine wpAnyH_take (i := 0) (v := ?v17) rfl (by kernel_rfl) (by kernel_rfl) (by kernel_rfl) (fun _ _ _ h => h) (Or.inl ⟨by rfl, ?hy17⟩) (by assumption) ?rest17
    case hy17 => (intro w hSw; (try dsimp only at hSw); go_simp; (first | done | with_reducible rfl))
    simp only [Act.put, List.setIfInBounds_toArray, List.set_cons_zero, List.set_cons_succ, List.getElem_toArray, List.getElem_cons_zero]
    refine wpAnyH_take (i := 1) (v := ?v18) rfl (by kernel_rfl) (by kernel_rfl) (by kernel_rfl) (fun _ _ _ h => h) (Or.inl ⟨by rfl, ?hy18⟩) (by assumption) ?rest18
    case hy18 => (intro w hSw; (try dsimp only at hSw); go_simp; (first | done | with_reducible rfl))
    simp only [Act.put, List.setIfInBounds_toArray, List.set_cons_zero, List.set_cons_succ, List.getElem_toArray, List.getElem_cons_zero, List.getElem_cons_succ]
    refine wpAnyH_take (i := 2) (v := ?v19) rfl (by kernel_rfl) (by kernel_rfl) (by kernel_rfl) (fun _ _ _ h => h) (Or.inl ⟨by rfl, ?hy19⟩) (by assumption) ?rest19
    case hy19 => (intro w hSw; (try dsimp only at hSw); go_simp; (first | done | with_reducible rfl))
    simp only [Act.put, List.setIfInBounds_toArray, List.set_cons_zero, List.set_cons_succ, List.getElem_toArray, List.getElem_cons_zero, List.getElem_cons_succ]
    refine wpAnyH_take (i := 3) (v := ?v20) rfl (by kernel_rfl) (by kernel_rfl) (by kernel_rfl) (fun _ _ _ h => h) (Or.inl ⟨by rfl, ?hy20⟩) (by assumption) ?rest20
    case hy20 => (intro w hSw; (try dsimp only at hSw); go_simp; (first | done | with_reducible rfl))
    simp only [Act.put, List.setIfInBounds_toArray, List.set_cons_zero, List.set_cons_succ, List.getElem_toArray, List.getElem_cons_zero, List.getElem_cons_succ]
    refine wpAnyH_take (i := 4) (v := ?v21) rfl (by kernel_rfl) (by kernel_rfl) (by kernel_rfl) (fun _ _ _ h => h) (Or.inl ⟨by rfl, ?hy21⟩) (by assumption) ?rest21
    case hy21 => (intro w hSw; (try dsimp only at hSw); go_simp; (first | done | with_reducible rfl))
    simp only [Act.put, List.setIfInBounds_toArray, List.set_cons_zero, List.set_cons_succ, List.getElem_toArray, List.getElem_cons_zero, List.getElem_cons_succ]
    refine wpAnyH_take (i := 5) (v := ?v22) rfl (by kernel_rfl) (by kernel_rfl) (by kernel_rfl) (fun _ _ _ h => h) (Or.inl ⟨by rfl, ?hy22⟩) (by assumption) ?rest22
    case hy22 => (intro w hSw; (try dsimp only at hSw); go_simp; (first | done | with_reducible rfl))
    simp only [Act.put, List.setIfInBounds_toArray, List.set_cons_zero, List.set_cons_succ, List.getElem_toArray, List.getElem_cons_zero, List.getElem_cons_succ]
    refine wpAnyH_ready (rs := [6]) (by kernel_rfl) (by simp) ?_
    refine AllReadyH.cons rfl (fun K hK => ?_) AllReadyH.nil
    simp only [List.getElem_toArray, List.getElem_cons_zero, List.getElem_cons_succ]
    obtain ⟨h_0, h_B⟩ := hHeld
    go_simp
    go_at_call 28
    refine (HCT.out _ _ _ (S2.out.later h_B)).mono ?_
    rintro e w3 ⟨rfl, b3⟩
    go_wp2_with fail
    refine hK.out _ _ ⟨cell_step b3 h_0, below_step h_B b3⟩ (fun hHeld => ?_)
    clear hK K h_0 h_B b3
    try simp only [Act.put, List.setIfInBounds_toArray, List.set_cons_zero, List.set_cons_succ, List.getElem_toArray, List.getElem_cons_zero, List.getElem_cons_succ]
    refine wpAnyH_take (i := 7) (v := ?v23) rfl (by kernel_rfl) (by kernel_rfl) (by kernel_rfl) (fun _ _ _ h => h) (Or.inl ⟨by rfl, ?hy23⟩) (by assumption) ?rest23
    case hy23 => (intro w hSw; (try dsimp only at hSw); go_simp; (first | done | with_reducible rfl))
    simp only [Act.put, List.setIfInBounds_toArray, List.set_cons_zero, List.set_cons_succ, List.getElem_toArray, List.getElem_cons_zero, List.getElem_cons_succ]
    refine wpAnyH_take (i := 8) (v := ?v24) rfl (by kernel_rfl) (by kernel_rfl) (by kernel_rfl) (fun _ _ _ h => h) (Or.inl ⟨by rfl, ?hy24⟩) (by assumption) ?rest24
    case hy24 => (intro w hSw; (try dsimp only at hSw); go_simp; (first | done | with_reducible rfl))
    simp only [Act.put, List.setIfInBounds_toArray, List.set_cons_zero, List.set_cons_succ, List.getElem_toArray, List.getElem_cons_zero, List.getElem_cons_succ]
    refine wpAnyH_take (i := 9) (v := ?v25) rfl (by kernel_rfl) (by kernel_rfl) (by kernel_rfl) (fun _ _ _ h => h) (Or.inl ⟨by rfl, ?hy25⟩) (by assumption) ?rest25
    case hy25 => (intro w hSw; (try dsimp only at hSw); go_simp; (first | done | with_reducible rfl))
    simp only [Act.put, List.setIfInBounds_toArray, List.set_cons_zero, List.set_cons_succ, List.getElem_toArray, List.getElem_cons_zero, List.getElem_cons_succ]
    refine wpAnyH_done (by kernel_rfl) ?_ _
    have B3 := Lib.hid (below_step B2.out hHeld.2)
    clear hHeld c13
    go_wp2_with fail
    go_ret
    exact ⟨by rw [HF.out]; rfl, B3.out⟩
end Go.Proofs.Ytolmdhhbhohndaa
