/- Layer 11: Few, ConfInputs. -/
import Derived.Test.YtolmdhhbhohndaaCnfI
namespace Go.Proofs.Ytolmdhhbhohndaa
open Go.RowKit
set_option linter.unusedVariables false
def SomeB (w : World) (e : Ending) (w' : World) : Prop := ∃ b : Bool, e = .returned (.bool b) ∧ Below w.heap.size w w'
set_option maxHeartbeats 2000000 in
theorem fewI_any (v vd vt vr : Value) (ss : List Int) (es : List Ex) (ps ds : List Int) (hm : ss.length ≤ maxLen) (hme : es.length ≤ maxLen) (hmp : ps.length ≤ maxLen) (hmd : ds.length ≤ maxLen) (sh ra mo wk ba mi st bu ch wi ca : Int) (w : World) (hv : IntsW .i64 w.heap.size w v ss) (hd : ExsAt w.heap.size w vd es) (hp : IntsW .i64 w.heap.size w vt ps) (hr : IntsW .u64 w.heap.size w vr ds) :
    Calls Try.prog 9 #[.agg #[v, .int .i64 sh, .int .i64 ra, .int .i64 mo, .int .i64 wk, .int .i64 ba, .int .i64 mi, .int .i64 st, .int .i64 bu, .int .i64 ch, .int .i64 wi, .int .i64 ca, vd, vt, vr]] w (SomeB w) := by
  have AL := (Below.refl w.heap.size w).alloc (Nat.le_refl _) (.cells #[v, .int .i64 sh, .int .i64 ra, .int .i64 mo, .int .i64 wk, .int .i64 ba, .int .i64 mi, .int .i64 st, .int .i64 bu, .int .i64 ch, .int .i64 wi, .int .i64 ca, vd, vt, vr] 34)
  have C0 := Lib.hid (CellsAt.new w #[v, .int .i64 sh, .int .i64 ra, .int .i64 mo, .int .i64 wk, .int .i64 ba, .int .i64 mi, .int .i64 st, .int .i64 bu, .int .i64 ch, .int .i64 wi, .int .i64 ca, vd, vt, vr] 34)
  have V0 := Lib.hid (hv.later AL)
  have D0 := Lib.hid (hd.later AL)
  have P0 := Lib.hid (hp.later AL)
  have R0 := Lib.hid (hr.later AL)
  have A0 := Lib.hid AL
  obtain ⟨a, c, rfl⟩ := hv.value
  obtain ⟨ad, cd, rfl⟩ := hd.value
  obtain ⟨ap, cp, rfl⟩ := hp.value
  obtain ⟨ar, cr, rfl⟩ := hr.value
  clear hv hd hp hr AL
  have HF := Lib.hid (fun W h => fewD_any (.slice ad es.length cd) es hme W h)
  unfold FewD at HF
  unfold maxLen at hm hme hmp hmd
  by_cases h1 : (ss.length : Int) ≤ 40
  · have g1 : decide ((ss.length : Int) ≤ 40) = true := by simpa using h1
    have g1' : ss.length ≤ 40 := by omega
    go_enter Try.func9, Try.ntmps9
    go_wp2_with fail
    refine (HF.out _ D0.out).mono ?_
    rintro e w1 ⟨⟨b, rfl, -⟩, b1⟩
    have B1 := Lib.hid (below_step A0.out b1)
    have C1 := Lib.hid (C0.out.later b1)
    clear b1
    cases b
    · go_wp2_with fail
      go_ret
      exact ⟨_, rfl, B1.out⟩
    · have c13 := C1.out.2 13 _ rfl
      have c14 := C1.out.2 14 _ rfl
      have hwb : w.heap.size < w1.heap.size := C1.out.1
      by_cases h2 : (ps.length : Int) ≤ 600
      · have g2 : decide ((ps.length : Int) ≤ 600) = true := by simpa using h2
        have g2' : ps.length ≤ 600 := by omega
        go_wp2_with fail
        go_ret
        exact ⟨_, rfl, B1.out⟩
      · have g2 : decide ((ps.length : Int) ≤ 600) = false := by simpa using h2
        have g2' : 600 < ps.length := by omega
        go_wp2_with fail
        go_ret
        exact ⟨_, rfl, B1.out⟩
  · have g1 : decide ((ss.length : Int) ≤ 40) = false := by simpa using h1
    have g1' : 40 < ss.length := by omega
    go_enter Try.func9, Try.ntmps9
    go_wp2_with fail
    go_ret
    exact ⟨_, rfl, A0.out⟩
set_option maxHeartbeats 4000000 in
theorem walk_inputs (v vd vt vr : Value) (ss : List Int) (es : List Ex) (ps ds : List Int) (hm : ss.length ≤ maxLen) (hme : es.length ≤ maxLen) (hmp : ps.length ≤ maxLen) (hmd : ds.length ≤ maxLen) (sh ra mo wk ba mi st bu ch wi ca : Int) (w : World) (hv : IntsW .i64 w.heap.size w v ss) (hd : ExsAt w.heap.size w vd es) (hp : IntsW .i64 w.heap.size w vt ps) (hr : IntsW .u64 w.heap.size w vr ds) :
    Calls Try.prog 4 #[.agg #[v, .int .i64 sh, .int .i64 ra, .int .i64 mo, .int .i64 wk, .int .i64 ba, .int .i64 mi, .int .i64 st, .int .i64 bu, .int .i64 ch, .int .i64 wi, .int .i64 ca, vd, vt, vr]] w fun e w' => e = .returned (.bool true) ∧ Below w.heap.size w w' := by
  have AL := (Below.refl w.heap.size w).alloc (Nat.le_refl _) (.cells #[v, .int .i64 sh, .int .i64 ra, .int .i64 mo, .int .i64 wk, .int .i64 ba, .int .i64 mi, .int .i64 st, .int .i64 bu, .int .i64 ch, .int .i64 wi, .int .i64 ca, vd, vt, vr] 34)
  have C0 := Lib.hid (CellsAt.new w #[v, .int .i64 sh, .int .i64 ra, .int .i64 mo, .int .i64 wk, .int .i64 ba, .int .i64 mi, .int .i64 st, .int .i64 bu, .int .i64 ch, .int .i64 wi, .int .i64 ca, vd, vt, vr] 34)
  have V0 := Lib.hid (hv.later AL)
  have D0 := Lib.hid (hd.later AL)
  have P0 := Lib.hid (hp.later AL)
  have R0 := Lib.hid (hr.later AL)
  have A0 := Lib.hid AL
  obtain ⟨a, c, rfl⟩ := hv.value
  obtain ⟨ad, cd, rfl⟩ := hd.value
  obtain ⟨ap, cp, rfl⟩ := hp.value
  obtain ⟨ar, cr, rfl⟩ := hr.value
  clear hv hd hp hr AL
  have HF := Lib.hid (fewI_any (.slice a ss.length c) (.slice ad es.length cd) (.slice ap ps.length cp) (.slice ar ds.length cr) ss es ps ds hm hme hmp hmd sh ra mo wk ba mi st bu ch wi ca _ V0.out D0.out P0.out R0.out)
  have HI := Lib.hid (fun W h1 h2 h3 h4 => inputC_any (.slice a ss.length c) (.slice ad es.length cd) (.slice ap ps.length cp) (.slice ar ds.length cr) ss es ps ds hm hme hmp hmd sh ra mo wk ba mi st bu ch wi ca W h1 h2 h3 h4)
  have HR := Lib.hid (fun W h1 h2 h3 h4 => refInputC_any (.slice a ss.length c) (.slice ad es.length cd) (.slice ap ps.length cp) (.slice ar ds.length cr) ss es ps ds hm hme hmp hmd sh ra mo wk ba mi st bu ch wi ca W h1 h2 h3 h4)
  unfold SomeB at HF
  generalize codeI ss sh wk ba mi st bu ch wi ca es ps.length ds.length = ci at *
  go_enter Try.func4, Try.ntmps4
  go_wp2_with fail
  refine HF.out.mono ?_
  rintro e w1 ⟨b, rfl, b1⟩
  have B1 := Lib.hid (below_step A0.out b1)
  have C1 := Lib.hid (C0.out.later b1)
  have V1 := Lib.hid (V0.out.later b1)
  have D1 := Lib.hid (D0.out.later b1)
  have P1 := Lib.hid (P0.out.later b1)
  have R1 := Lib.hid (R0.out.later b1)
  clear b1 C0 V0 D0 P0 R0 A0 HF
  cases b
  · go_wp2_with fail
    refine (alive_any _).mono ?_
    rintro e w2 ⟨rfl, b2⟩
    have B2 := Lib.hid (below_step B1.out b2)
    clear b2
    go_wp2_with fail
    go_ret
    exact ⟨rfl, B2.out⟩
  obtain ⟨c0, c1, c2, c3, c4, c5, c6, c7, c8, c9, c10, c11, c12, c13, c14⟩ : w1.cell? ⟨w.heap.size, 0, none⟩ = some (.slice a ss.length c) ∧ w1.cell? ⟨w.heap.size, 1, none⟩ = some (.int .i64 sh) ∧ w1.cell? ⟨w.heap.size, 2, none⟩ = some (.int .i64 ra) ∧ w1.cell? ⟨w.heap.size, 3, none⟩ = some (.int .i64 mo) ∧ w1.cell? ⟨w.heap.size, 4, none⟩ = some (.int .i64 wk) ∧ w1.cell? ⟨w.heap.size, 5, none⟩ = some (.int .i64 ba) ∧ w1.cell? ⟨w.heap.size, 6, none⟩ = some (.int .i64 mi) ∧ w1.cell? ⟨w.heap.size, 7, none⟩ = some (.int .i64 st) ∧ w1.cell? ⟨w.heap.size, 8, none⟩ = some (.int .i64 bu) ∧ w1.cell? ⟨w.heap.size, 9, none⟩ = some (.int .i64 ch) ∧ w1.cell? ⟨w.heap.size, 10, none⟩ = some (.int .i64 wi) ∧ w1.cell? ⟨w.heap.size, 11, none⟩ = some (.int .i64 ca) ∧ w1.cell? ⟨w.heap.size, 12, none⟩ = some (.slice ad es.length cd) ∧ w1.cell? ⟨w.heap.size, 13, none⟩ = some (.slice ap ps.length cp) ∧ w1.cell? ⟨w.heap.size, 14, none⟩ = some (.slice ar ds.length cr) := ⟨C1.out.2 0 _ rfl, C1.out.2 1 _ rfl, C1.out.2 2 _ rfl, C1.out.2 3 _ rfl, C1.out.2 4 _ rfl, C1.out.2 5 _ rfl, C1.out.2 6 _ rfl, C1.out.2 7 _ rfl, C1.out.2 8 _ rfl, C1.out.2 9 _ rfl, C1.out.2 10 _ rfl, C1.out.2 11 _ rfl, C1.out.2 12 _ rfl, C1.out.2 13 _ rfl, C1.out.2 14 _ rfl⟩
  go_upto_region 3 with fail
  refine wp_region_held_drew (S := fun w' => w'.cell? ⟨w.heap.size, 0, none⟩ = some (.slice a ss.length c) ∧ w'.cell? ⟨w.heap.size, 1, none⟩ = some (.int .i64 sh) ∧ w'.cell? ⟨w.heap.size, 2, none⟩ = some (.int .i64 ra) ∧ w'.cell? ⟨w.heap.size, 3, none⟩ = some (.int .i64 mo) ∧ w'.cell? ⟨w.heap.size, 4, none⟩ = some (.int .i64 wk) ∧ w'.cell? ⟨w.heap.size, 5, none⟩ = some (.int .i64 ba) ∧ w'.cell? ⟨w.heap.size, 6, none⟩ = some (.int .i64 mi) ∧ w'.cell? ⟨w.heap.size, 7, none⟩ = some (.int .i64 st) ∧ w'.cell? ⟨w.heap.size, 8, none⟩ = some (.int .i64 bu) ∧ w'.cell? ⟨w.heap.size, 9, none⟩ = some (.int .i64 ch) ∧ w'.cell? ⟨w.heap.size, 10, none⟩ = some (.int .i64 wi) ∧ w'.cell? ⟨w.heap.size, 11, none⟩ = some (.int .i64 ca) ∧ w'.cell? ⟨w.heap.size, 12, none⟩ = some (.slice ad es.length cd) ∧ w'.cell? ⟨w.heap.size, 13, none⟩ = some (.slice ap ps.length cp) ∧ w'.cell? ⟨w.heap.size, 14, none⟩ = some (.slice ar ds.length cr) ∧ Below w1.heap.size w1 w') (by kernel_rfl) ?_ (fun hHeld => ?_)
  · exact ⟨c0, c1, c2, c3, c4, c5, c6, c7, c8, c9, c10, c11, c12, c13, c14, (Below.refl _ _).drew⟩
  clear c0 c1 c2 c3 c4 c5 c6 c7 c8 c9 c10 c11 c12 c13 c14
  refine wpAnyH_ready (rs := [0]) (by kernel_rfl) (by simp) ?_
  refine AllReadyH.cons rfl (fun K hK => ?_) AllReadyH.nil
  simp only [List.getElem_toArray, List.getElem_cons_zero]
  obtain ⟨h_0, h_1, h_2, h_3, h_4, h_5, h_6, h_7, h_8, h_9, h_10, h_11, h_12, h_13, h_14, h_B⟩ := hHeld
  go_simp
  go_at_call 6
  refine (alive_any _).mono ?_
  rintro e w_b2 ⟨rfl, b2⟩
  go_wp2_with fail
  refine hK.out _ _ ⟨cell_step b2 h_0, cell_step b2 h_1, cell_step b2 h_2, cell_step b2 h_3, cell_step b2 h_4, cell_step b2 h_5, cell_step b2 h_6, cell_step b2 h_7, cell_step b2 h_8, cell_step b2 h_9, cell_step b2 h_10, cell_step b2 h_11, cell_step b2 h_12, cell_step b2 h_13, cell_step b2 h_14, below_step h_B b2⟩ (fun hHeld => ?_)
  clear hK K h_0 h_1 h_2 h_3 h_4 h_5 h_6 h_7 h_8 h_9 h_10 h_11 h_12 h_13 h_14 h_B b2
  try simp only [Act.put, List.setIfInBounds_toArray, List.set_cons_zero, List.set_cons_succ, List.getElem_toArray, List.getElem_cons_zero, List.getElem_cons_succ]
  refine wpAnyH_take (i := 1) (v := ?v1) rfl (by kernel_rfl) (by kernel_rfl) (by kernel_rfl) (fun _ _ _ h => h) (Or.inl ⟨by rfl, ?hy1⟩) (by assumption) ?rest1
  case hy1 => (intro w hSw; (try dsimp only at hSw); go_simp; (first | done | with_reducible rfl))
  simp only [Act.put, List.setIfInBounds_toArray, List.set_cons_zero, List.set_cons_succ, List.getElem_toArray, List.getElem_cons_zero, List.getElem_cons_succ]
  refine wpAnyH_take (i := 2) (v := ?v2) rfl (by kernel_rfl) (by kernel_rfl) (by kernel_rfl) (fun _ _ _ h => h) (Or.inl ⟨by rfl, ?hy2⟩) (by assumption) ?rest2
  case hy2 => (intro w hSw; (try dsimp only at hSw); go_simp; (first | done | with_reducible rfl))
  simp only [Act.put, List.setIfInBounds_toArray, List.set_cons_zero, List.set_cons_succ, List.getElem_toArray, List.getElem_cons_zero, List.getElem_cons_succ]
  refine wpAnyH_take (i := 4) (v := ?v3) rfl (by kernel_rfl) (by kernel_rfl) (by kernel_rfl) (fun _ _ _ h => h) (Or.inl ⟨by rfl, ?hy3⟩) (by assumption) ?rest3
  case hy3 => (intro w hSw; (try dsimp only at hSw); go_simp; (first | done | with_reducible rfl))
  simp only [Act.put, List.setIfInBounds_toArray, List.set_cons_zero, List.set_cons_succ, List.getElem_toArray, List.getElem_cons_zero, List.getElem_cons_succ]
  refine wpAnyH_ready (rs := [3]) (by kernel_rfl) (by simp) ?_
  refine AllReadyH.cons rfl (fun K hK => ?_) AllReadyH.nil
  simp only [List.getElem_toArray, List.getElem_cons_zero, List.getElem_cons_succ]
  obtain ⟨h_0, h_1, h_2, h_3, h_4, h_5, h_6, h_7, h_8, h_9, h_10, h_11, h_12, h_13, h_14, h_B⟩ := hHeld
  go_simp
  go_at_call 10
  refine (HI.out _ (V1.out.later h_B) (D1.out.later h_B) (P1.out.later h_B) (R1.out.later h_B)).mono ?_
  rintro e w_b3 ⟨rfl, b3⟩
  go_wp2_with fail
  refine hK.out _ _ ⟨cell_step b3 h_0, cell_step b3 h_1, cell_step b3 h_2, cell_step b3 h_3, cell_step b3 h_4, cell_step b3 h_5, cell_step b3 h_6, cell_step b3 h_7, cell_step b3 h_8, cell_step b3 h_9, cell_step b3 h_10, cell_step b3 h_11, cell_step b3 h_12, cell_step b3 h_13, cell_step b3 h_14, below_step h_B b3⟩ (fun hHeld => ?_)
  clear hK K h_0 h_1 h_2 h_3 h_4 h_5 h_6 h_7 h_8 h_9 h_10 h_11 h_12 h_13 h_14 h_B b3
  try simp only [Act.put, List.setIfInBounds_toArray, List.set_cons_zero, List.set_cons_succ, List.getElem_toArray, List.getElem_cons_zero, List.getElem_cons_succ]
  refine wpAnyH_ready (rs := [5]) (by kernel_rfl) (by simp) ?_
  refine AllReadyH.cons rfl (fun K hK => ?_) AllReadyH.nil
  simp only [List.getElem_toArray, List.getElem_cons_zero, List.getElem_cons_succ]
  obtain ⟨h_0, h_1, h_2, h_3, h_4, h_5, h_6, h_7, h_8, h_9, h_10, h_11, h_12, h_13, h_14, h_B⟩ := hHeld
  go_simp
  go_at_call 11
  refine (HR.out _ (V1.out.later h_B) (D1.out.later h_B) (P1.out.later h_B) (R1.out.later h_B)).mono ?_
  rintro e w_b4 ⟨rfl, b4⟩
  go_wp2_with fail
  refine hK.out _ _ ⟨cell_step b4 h_0, cell_step b4 h_1, cell_step b4 h_2, cell_step b4 h_3, cell_step b4 h_4, cell_step b4 h_5, cell_step b4 h_6, cell_step b4 h_7, cell_step b4 h_8, cell_step b4 h_9, cell_step b4 h_10, cell_step b4 h_11, cell_step b4 h_12, cell_step b4 h_13, cell_step b4 h_14, below_step h_B b4⟩ (fun hHeld => ?_)
  clear hK K h_0 h_1 h_2 h_3 h_4 h_5 h_6 h_7 h_8 h_9 h_10 h_11 h_12 h_13 h_14 h_B b4
  try simp only [Act.put, List.setIfInBounds_toArray, List.set_cons_zero, List.set_cons_succ, List.getElem_toArray, List.getElem_cons_zero, List.getElem_cons_succ]
  refine wpAnyH_take (i := 6) (v := ?v4) rfl (by kernel_rfl) (by kernel_rfl) (by kernel_rfl) (fun _ _ _ h => h) (Or.inl ⟨by rfl, ?hy4⟩) (by assumption) ?rest4
  case hy4 => (intro w hSw; (try dsimp only at hSw); go_simp; (first | done | with_reducible rfl))
  simp only [Act.put, List.setIfInBounds_toArray, List.set_cons_zero, List.set_cons_succ, List.getElem_toArray, List.getElem_cons_zero, List.getElem_cons_succ]
  refine wpAnyH_take (i := 7) (v := ?v5) rfl (by kernel_rfl) (by kernel_rfl) (by kernel_rfl) (fun _ _ _ h => h) (Or.inl ⟨by rfl, ?hy5⟩) (by assumption) ?rest5
  case hy5 => (intro w hSw; (try dsimp only at hSw); go_simp; (first | done | with_reducible rfl))
  simp only [Act.put, List.setIfInBounds_toArray, List.set_cons_zero, List.set_cons_succ, List.getElem_toArray, List.getElem_cons_zero, List.getElem_cons_succ]
  refine wpAnyH_take (i := 8) (v := ?v6) rfl (by kernel_rfl) (by kernel_rfl) (by kernel_rfl) (fun _ _ _ h => h) (Or.inl ⟨by rfl, ?hy6⟩) (by assumption) ?rest6
  case hy6 => (intro w hSw; (try dsimp only at hSw); go_simp; (first | done | with_reducible rfl))
  simp only [Act.put, List.setIfInBounds_toArray, List.set_cons_zero, List.set_cons_succ, List.getElem_toArray, List.getElem_cons_zero, List.getElem_cons_succ]
  refine wpAnyH_done (by kernel_rfl) ?_ _
  obtain ⟨-, -, -, -, -, -, -, -, -, -, -, -, -, -, -, h_B⟩ := hHeld
  have BF := Lib.hid (below_step B1.out h_B)
  clear h_B
  go_wp2_with fail
  go_ret
  exact ⟨by first | rfl | (simp; done), BF.out⟩
end Go.Proofs.Ytolmdhhbhohndaa
