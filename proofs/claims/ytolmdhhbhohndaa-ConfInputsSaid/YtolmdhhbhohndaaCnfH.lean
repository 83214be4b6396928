/- Layer 11: Input and the reference's Input. -/
import Derived.Test.YtolmdhhbhohndaaCnfG
namespace Go.Proofs.Ytolmdhhbhohndaa
open Go.RowKit
set_option linter.unusedVariables false
/-- the code of an input -/
def codeI3 (ba st : Int) (es : List Ex) (nd : Nat) : Int := if (nd : Int) < epC 0 ba st es.length * needZ es.length then 8 else 0
def codeI2 (ss : List Int) (ba st : Int) (es : List Ex) (np nd : Nat) : Int := if fitsB ss es np = false then 5 else codeI3 ba st es nd
def codeI1 (ss : List Int) (ba st : Int) (es : List Ex) (np nd : Nat) : Int := if withinB ba [(es.length : Int)] = false then 7 else codeI2 ss ba st es np nd
def codeI (ss : List Int) (sh wk ba mi st bu ch wi ca : Int) (es : List Ex) (np nd : Nat) : Int := if codeC ss sh wk ba mi st bu ch wi ca ≠ 0 then codeC ss sh wk ba mi st bu ch wi ca else codeI1 ss ba st es np nd
theorem codeI_c {ss : List Int} {sh wk ba mi st bu ch wi ca : Int} {es : List Ex} {np nd : Nat} {cd : Int} (h : codeC ss sh wk ba mi st bu ch wi ca = cd) (hz : cd ≠ 0) : codeI ss sh wk ba mi st bu ch wi ca es np nd = cd := by
  subst h; exact if_pos hz
theorem codeI_z {ss : List Int} {sh wk ba mi st bu ch wi ca : Int} {es : List Ex} {np nd : Nat} (h : codeC ss sh wk ba mi st bu ch wi ca = 0) : codeI ss sh wk ba mi st bu ch wi ca es np nd = codeI1 ss ba st es np nd := if_neg (fun k => k h)
set_option maxHeartbeats 4000000 in
theorem inputC_any (v vd vt vr : Value) (ss : List Int) (es : List Ex) (ps ds : List Int) (hm : ss.length ≤ maxLen) (hme : es.length ≤ maxLen) (hmp : ps.length ≤ maxLen) (hmd : ds.length ≤ maxLen) (sh ra mo wk ba mi st bu ch wi ca : Int) (w : World) (hv : IntsW .i64 w.heap.size w v ss) (hd : ExsAt w.heap.size w vd es) (hp : IntsW .i64 w.heap.size w vt ps) (hr : IntsW .u64 w.heap.size w vr ds) :
    Calls Try.prog 10 #[.agg #[v, .int .i64 sh, .int .i64 ra, .int .i64 mo, .int .i64 wk, .int .i64 ba, .int .i64 mi, .int .i64 st, .int .i64 bu, .int .i64 ch, .int .i64 wi, .int .i64 ca, vd, vt, vr]] w fun e w' => e = .returned (.int .i64 (codeI ss sh wk ba mi st bu ch wi ca es ps.length ds.length)) ∧ Below w.heap.size w w' := by
  have AL1 := (Below.refl w.heap.size w).alloc (Nat.le_refl _) (.cells #[v, .int .i64 sh, .int .i64 ra, .int .i64 mo, .int .i64 wk, .int .i64 ba, .int .i64 mi, .int .i64 st, .int .i64 bu, .int .i64 ch, .int .i64 wi, .int .i64 ca, vd, vt, vr] 34)
  have al1 := (Below.refl (w.alloc (.cells #[v, .int .i64 sh, .int .i64 ra, .int .i64 mo, .int .i64 wk, .int .i64 ba, .int .i64 mi, .int .i64 st, .int .i64 bu, .int .i64 ch, .int .i64 wi, .int .i64 ca, vd, vt, vr] 34)).heap.size (w.alloc (.cells #[v, .int .i64 sh, .int .i64 ra, .int .i64 mo, .int .i64 wk, .int .i64 ba, .int .i64 mi, .int .i64 st, .int .i64 bu, .int .i64 ch, .int .i64 wi, .int .i64 ca, vd, vt, vr] 34))).alloc (Nat.le_refl _) (.cells #[v, .int .i64 sh, .int .i64 ra, .int .i64 mo, .int .i64 wk, .int .i64 ba, .int .i64 mi, .int .i64 st, .int .i64 bu, .int .i64 ch, .int .i64 wi, .int .i64 ca] 24)
  have AL := below_step AL1 al1
  have C0 := Lib.hid ((CellsAt.new w #[v, .int .i64 sh, .int .i64 ra, .int .i64 mo, .int .i64 wk, .int .i64 ba, .int .i64 mi, .int .i64 st, .int .i64 bu, .int .i64 ch, .int .i64 wi, .int .i64 ca, vd, vt, vr] 34).later al1)
  have K0 := CellsAt.new (w.alloc (.cells #[v, .int .i64 sh, .int .i64 ra, .int .i64 mo, .int .i64 wk, .int .i64 ba, .int .i64 mi, .int .i64 st, .int .i64 bu, .int .i64 ch, .int .i64 wi, .int .i64 ca, vd, vt, vr] 34)) #[v, .int .i64 sh, .int .i64 ra, .int .i64 mo, .int .i64 wk, .int .i64 ba, .int .i64 mi, .int .i64 st, .int .i64 bu, .int .i64 ch, .int .i64 wi, .int .i64 ca] 24
  rw [World.size_alloc] at K0
  have K0 := Lib.hid K0
  have V0 := Lib.hid (hv.later AL)
  have D0 := Lib.hid (hd.later AL)
  have P0 := Lib.hid (hp.later AL)
  have R0 := Lib.hid (hr.later AL)
  have A0 := Lib.hid AL
  obtain ⟨a, c, rfl⟩ := hv.value
  obtain ⟨ad, cd, rfl⟩ := hd.value
  obtain ⟨ap, cp, rfl⟩ := hp.value
  obtain ⟨ar, cr, rfl⟩ := hr.value
  clear hv hd hp hr AL AL1 al1
  have HK := Lib.hid (fun W h => checkC_any (.slice a ss.length c) ss hm sh ra mo wk ba mi st bu ch wi ca W h)
  have HNE := Lib.hid (fun W h => needC_any (.slice a ss.length c) ss hm sh ra mo wk ba mi st bu ch wi ca (es.length : Int) (by unfold maxLen at hme; omega) W h)
  have HZR := Lib.hid (fun h => codeC_zero (ss := ss) (sh := sh) (wk := wk) (ba := ba) (mi := mi) (st := st) (bu := bu) (ch := ch) (wi := wi) (ca := ca) h)
  have HIC := Lib.hid (fun cd h hz => codeI_c (ss := ss) (sh := sh) (wk := wk) (ba := ba) (mi := mi) (st := st) (bu := bu) (ch := ch) (wi := wi) (ca := ca) (es := es) (np := ps.length) (nd := ds.length) (cd := cd) h hz)
  have HIZ := Lib.hid (fun h => codeI_z (ss := ss) (sh := sh) (wk := wk) (ba := ba) (mi := mi) (st := st) (bu := bu) (ch := ch) (wi := wi) (ca := ca) (es := es) (np := ps.length) (nd := ds.length) h)
  generalize codeI ss sh wk ba mi st bu ch wi ca es ps.length ds.length = ci at *
  have hl := hme
  unfold maxLen at hl
  go_enter Try.func10, Try.ntmps10
  go_upto_region 2 with fail
  generalize ((w.alloc (.cells #[.slice a ss.length c, .int .i64 sh, .int .i64 ra, .int .i64 mo, .int .i64 wk, .int .i64 ba, .int .i64 mi, .int .i64 st, .int .i64 bu, .int .i64 ch, .int .i64 wi, .int .i64 ca, .slice ad es.length cd, .slice ap ps.length cp, .slice ar ds.length cr] 34)).alloc (.cells #[.slice a ss.length c, .int .i64 sh, .int .i64 ra, .int .i64 mo, .int .i64 wk, .int .i64 ba, .int .i64 mi, .int .i64 st, .int .i64 bu, .int .i64 ch, .int .i64 wi, .int .i64 ca] 24)) = W2 at *
  obtain ⟨k0, k1, k2, k3, k4, k5, k6, k7, k8, k9, k10, k11⟩ : W2.cell? ⟨w.heap.size + 1, 0, none⟩ = some (.slice a ss.length c) ∧ W2.cell? ⟨w.heap.size + 1, 1, none⟩ = some (.int .i64 sh) ∧ W2.cell? ⟨w.heap.size + 1, 2, none⟩ = some (.int .i64 ra) ∧ W2.cell? ⟨w.heap.size + 1, 3, none⟩ = some (.int .i64 mo) ∧ W2.cell? ⟨w.heap.size + 1, 4, none⟩ = some (.int .i64 wk) ∧ W2.cell? ⟨w.heap.size + 1, 5, none⟩ = some (.int .i64 ba) ∧ W2.cell? ⟨w.heap.size + 1, 6, none⟩ = some (.int .i64 mi) ∧ W2.cell? ⟨w.heap.size + 1, 7, none⟩ = some (.int .i64 st) ∧ W2.cell? ⟨w.heap.size + 1, 8, none⟩ = some (.int .i64 bu) ∧ W2.cell? ⟨w.heap.size + 1, 9, none⟩ = some (.int .i64 ch) ∧ W2.cell? ⟨w.heap.size + 1, 10, none⟩ = some (.int .i64 wi) ∧ W2.cell? ⟨w.heap.size + 1, 11, none⟩ = some (.int .i64 ca) := ⟨K0.out.2 0 _ rfl, K0.out.2 1 _ rfl, K0.out.2 2 _ rfl, K0.out.2 3 _ rfl, K0.out.2 4 _ rfl, K0.out.2 5 _ rfl, K0.out.2 6 _ rfl, K0.out.2 7 _ rfl, K0.out.2 8 _ rfl, K0.out.2 9 _ rfl, K0.out.2 10 _ rfl, K0.out.2 11 _ rfl⟩
  have hw2 : w.heap.size + 1 < W2.heap.size := K0.out.1
  go_wp2_with fail
  refine (HK.out _ V0.out).mono ?_
  rintro e w3 ⟨rfl, b3⟩
  have B3 := Lib.hid (below_step A0.out b3)
  have C3 := Lib.hid (C0.out.later b3)
  have K3 := Lib.hid (K0.out.later b3)
  have V3 := Lib.hid (V0.out.later b3)
  have D3 := Lib.hid (D0.out.later b3)
  have P3 := Lib.hid (P0.out.later b3)
  have R3 := Lib.hid (R0.out.later b3)
  clear b3 C0 K0 V0 D0 P0 R0 A0 k0 k1 k2 k3 k4 k5 k6 k7 k8 k9 k10 k11 HK
  by_cases hz : codeC ss sh wk ba mi st bu ch wi ca = 0
  · have HCZ := Lib.hid hz
    have HR := Lib.hid (HZR.out hz).1
    have EI1 := Lib.hid (HIZ.out hz)
    rw [hz] at HNE ⊢
    clear hz HZR HIC HIZ
    have c12 := C3.out.2 12 _ rfl
    have k5 := K3.out.2 5 _ rfl
    have hw3 : w.heap.size + 1 < w3.heap.size := K3.out.1
    have al := (Below.refl w3.heap.size w3).alloc (Nat.le_refl _) (.cells #[.int .i64 es.length] 3)
    have I4 := Lib.hid (IntsAt.fresh (q := .i64) (w := w3) (e := 3) (zs := [(es.length : Int)]) (cs := #[.int .i64 es.length]) rfl)
    have B4 := Lib.hid (below_step B3.out al)
    have C4 := Lib.hid (C3.out.later al)
    have K4 := Lib.hid (K3.out.later al)
    have V4 := Lib.hid (V3.out.later al)
    have D4 := Lib.hid (D3.out.later al)
    have P4 := Lib.hid (P3.out.later al)
    have R4 := Lib.hid (R3.out.later al)
    have W4 := Lib.hid (within_any ba _ [(es.length : Int)] (by simp) _ _ I4.out)
    clear al I4 C3 K3 V3 D3 P3 R3 B3
    go_wp2_with fail
    refine W4.out.mono ?_
    rintro e w4 ⟨rfl, rfl⟩
    clear c12 k5 W4
    generalize hW : w3.alloc (.cells #[.int .i64 es.length] 3) = W4 at *
    clear hW
    cases hb : withinB ba [(es.length : Int)]
    · have H := Lib.hid (show ci = 7 from EI1.out.trans (if_pos hb))
      clear hb
      go_wp2_with fail
      go_ret
      exact ⟨by rw [H.out]; rfl, B4.out⟩
    · have EI2 := Lib.hid (show ci = codeI2 ss ba st es ps.length ds.length from EI1.out.trans (if_neg (by rw [hb]; simp)))
      clear hb EI1
      obtain ⟨c0, c1, c2, c3, c4, c5, c6, c7, c8, c9, c10, c11, c12, c13, c14⟩ : W4.cell? ⟨w.heap.size, 0, none⟩ = some (.slice a ss.length c) ∧ W4.cell? ⟨w.heap.size, 1, none⟩ = some (.int .i64 sh) ∧ W4.cell? ⟨w.heap.size, 2, none⟩ = some (.int .i64 ra) ∧ W4.cell? ⟨w.heap.size, 3, none⟩ = some (.int .i64 mo) ∧ W4.cell? ⟨w.heap.size, 4, none⟩ = some (.int .i64 wk) ∧ W4.cell? ⟨w.heap.size, 5, none⟩ = some (.int .i64 ba) ∧ W4.cell? ⟨w.heap.size, 6, none⟩ = some (.int .i64 mi) ∧ W4.cell? ⟨w.heap.size, 7, none⟩ = some (.int .i64 st) ∧ W4.cell? ⟨w.heap.size, 8, none⟩ = some (.int .i64 bu) ∧ W4.cell? ⟨w.heap.size, 9, none⟩ = some (.int .i64 ch) ∧ W4.cell? ⟨w.heap.size, 10, none⟩ = some (.int .i64 wi) ∧ W4.cell? ⟨w.heap.size, 11, none⟩ = some (.int .i64 ca) ∧ W4.cell? ⟨w.heap.size, 12, none⟩ = some (.slice ad es.length cd) ∧ W4.cell? ⟨w.heap.size, 13, none⟩ = some (.slice ap ps.length cp) ∧ W4.cell? ⟨w.heap.size, 14, none⟩ = some (.slice ar ds.length cr) := ⟨C4.out.2 0 _ rfl, C4.out.2 1 _ rfl, C4.out.2 2 _ rfl, C4.out.2 3 _ rfl, C4.out.2 4 _ rfl, C4.out.2 5 _ rfl, C4.out.2 6 _ rfl, C4.out.2 7 _ rfl, C4.out.2 8 _ rfl, C4.out.2 9 _ rfl, C4.out.2 10 _ rfl, C4.out.2 11 _ rfl, C4.out.2 12 _ rfl, C4.out.2 13 _ rfl, C4.out.2 14 _ rfl⟩
      have hw4 : w.heap.size < W4.heap.size := C4.out.1
      have HF := Lib.hid (fits_any (.slice a ss.length c) (.slice ad es.length cd) (.slice ap ps.length cp) (.slice ar ds.length cr) ss es ps ds hm hme hmp hmd sh ra mo wk ba mi st bu ch wi ca W4 V4.out D4.out P4.out R4.out HR.out)
      go_wp2_with fail
      refine HF.out.mono ?_
      rintro e w5 ⟨rfl, b5⟩
      have B5 := Lib.hid (below_step B4.out b5)
      have C5 := Lib.hid (C4.out.later b5)
      have K5 := Lib.hid (K4.out.later b5)
      have V5 := Lib.hid (V4.out.later b5)
      have D5 := Lib.hid (D4.out.later b5)
      have P5 := Lib.hid (P4.out.later b5)
      have R5 := Lib.hid (R4.out.later b5)
      clear b5 c0 c1 c2 c3 c4 c5 c6 c7 c8 c9 c10 c11 c12 c13 c14 HF C4 K4 V4 D4 P4 R4 B4 HR
      cases hf : fitsB ss es ps.length
      · have H := Lib.hid (show ci = 5 from EI2.out.trans (if_pos hf))
        clear hf
        go_wp2_with fail
        go_ret
        exact ⟨by rw [H.out]; rfl, B5.out⟩
      · have EI3 := Lib.hid (show ci = if (ds.length : Int) < epC 0 ba st es.length * needZ es.length then 8 else 0 from EI2.out.trans (if_neg (by rw [hf]; simp)))
        clear hf EI2
        generalize epC 0 ba st es.length * needZ es.length = nz at *
        have c12 := C5.out.2 12 _ rfl
        have c14 := C5.out.2 14 _ rfl
        obtain ⟨k0, k1, k2, k3, k4, k5, k6, k7, k8, k9, k10, k11⟩ : w5.cell? ⟨w.heap.size + 1, 0, none⟩ = some (.slice a ss.length c) ∧ w5.cell? ⟨w.heap.size + 1, 1, none⟩ = some (.int .i64 sh) ∧ w5.cell? ⟨w.heap.size + 1, 2, none⟩ = some (.int .i64 ra) ∧ w5.cell? ⟨w.heap.size + 1, 3, none⟩ = some (.int .i64 mo) ∧ w5.cell? ⟨w.heap.size + 1, 4, none⟩ = some (.int .i64 wk) ∧ w5.cell? ⟨w.heap.size + 1, 5, none⟩ = some (.int .i64 ba) ∧ w5.cell? ⟨w.heap.size + 1, 6, none⟩ = some (.int .i64 mi) ∧ w5.cell? ⟨w.heap.size + 1, 7, none⟩ = some (.int .i64 st) ∧ w5.cell? ⟨w.heap.size + 1, 8, none⟩ = some (.int .i64 bu) ∧ w5.cell? ⟨w.heap.size + 1, 9, none⟩ = some (.int .i64 ch) ∧ w5.cell? ⟨w.heap.size + 1, 10, none⟩ = some (.int .i64 wi) ∧ w5.cell? ⟨w.heap.size + 1, 11, none⟩ = some (.int .i64 ca) := ⟨K5.out.2 0 _ rfl, K5.out.2 1 _ rfl, K5.out.2 2 _ rfl, K5.out.2 3 _ rfl, K5.out.2 4 _ rfl, K5.out.2 5 _ rfl, K5.out.2 6 _ rfl, K5.out.2 7 _ rfl, K5.out.2 8 _ rfl, K5.out.2 9 _ rfl, K5.out.2 10 _ rfl, K5.out.2 11 _ rfl⟩
        go_upto_region 9 with fail
        refine wp_region_held_drew (S := fun w' => w'.cell? ⟨w.heap.size, 12, none⟩ = some (.slice ad es.length cd) ∧ w'.cell? ⟨w.heap.size, 14, none⟩ = some (.slice ar ds.length cr) ∧ w'.cell? ⟨w.heap.size + 1, 0, none⟩ = some (.slice a ss.length c) ∧ w'.cell? ⟨w.heap.size + 1, 1, none⟩ = some (.int .i64 sh) ∧ w'.cell? ⟨w.heap.size + 1, 2, none⟩ = some (.int .i64 ra) ∧ w'.cell? ⟨w.heap.size + 1, 3, none⟩ = some (.int .i64 mo) ∧ w'.cell? ⟨w.heap.size + 1, 4, none⟩ = some (.int .i64 wk) ∧ w'.cell? ⟨w.heap.size + 1, 5, none⟩ = some (.int .i64 ba) ∧ w'.cell? ⟨w.heap.size + 1, 6, none⟩ = some (.int .i64 mi) ∧ w'.cell? ⟨w.heap.size + 1, 7, none⟩ = some (.int .i64 st) ∧ w'.cell? ⟨w.heap.size + 1, 8, none⟩ = some (.int .i64 bu) ∧ w'.cell? ⟨w.heap.size + 1, 9, none⟩ = some (.int .i64 ch) ∧ w'.cell? ⟨w.heap.size + 1, 10, none⟩ = some (.int .i64 wi) ∧ w'.cell? ⟨w.heap.size + 1, 11, none⟩ = some (.int .i64 ca) ∧ Below w5.heap.size w5 w') (by kernel_rfl) ?_ (fun hHeld => ?_)
        · exact ⟨c12, c14, k0, k1, k2, k3, k4, k5, k6, k7, k8, k9, k10, k11, (Below.refl _ _).drew⟩
        refine wpAnyH_take (i := 0) (v := ?v1) rfl (by kernel_rfl) (by kernel_rfl) (by kernel_rfl) (fun _ _ _ h => h) (Or.inl ⟨by rfl, ?hy1⟩) (by assumption) ?rest1
        case hy1 => (intro w hSw; (try dsimp only at hSw); go_simp; (first | done | with_reducible rfl))
        simp only [Act.put, List.setIfInBounds_toArray, List.set_cons_zero, List.set_cons_succ, List.getElem_toArray, List.getElem_cons_zero]
        refine wpAnyH_take (i := 1) (v := ?v2) rfl (by kernel_rfl) (by kernel_rfl) (by kernel_rfl) (fun _ _ _ h => h) (Or.inl ⟨by rfl, ?hy2⟩) (by assumption) ?rest2
        case hy2 => (intro w hSw; (try dsimp only at hSw); go_simp; (first | done | with_reducible rfl))
        simp only [Act.put, List.setIfInBounds_toArray, List.set_cons_zero, List.set_cons_succ, List.getElem_toArray, List.getElem_cons_zero, List.getElem_cons_succ]
        refine wpAnyH_take (i := 2) (v := ?v3) rfl (by kernel_rfl) (by kernel_rfl) (by kernel_rfl) (fun _ _ _ h => h) (Or.inl ⟨by rfl, ?hy3⟩) (by assumption) ?rest3
        case hy3 => (intro w hSw; (try dsimp only at hSw); go_simp; (first | done | with_reducible rfl))
        simp only [Act.put, List.setIfInBounds_toArray, List.set_cons_zero, List.set_cons_succ, List.getElem_toArray, List.getElem_cons_zero, List.getElem_cons_succ]
        refine wpAnyH_take (i := 3) (v := ?v4) rfl (by kernel_rfl) (by kernel_rfl) (by kernel_rfl) (fun _ _ _ h => h) (Or.inl ⟨by rfl, ?hy4⟩) (by assumption) ?rest4
        case hy4 => (intro w hSw; (try dsimp only at hSw); go_simp; (first | done | with_reducible rfl))
        simp only [Act.put, List.setIfInBounds_toArray, List.set_cons_zero, List.set_cons_succ, List.getElem_toArray, List.getElem_cons_zero, List.getElem_cons_succ]
        refine wpAnyH_take (i := 4) (v := ?v5) rfl (by kernel_rfl) (by kernel_rfl) (by kernel_rfl) (fun _ _ _ h => h) (Or.inl ⟨by rfl, ?hy5⟩) (by assumption) ?rest5
        case hy5 => (intro w hSw; (try dsimp only at hSw); go_simp; (first | done | with_reducible rfl))
        simp only [Act.put, List.setIfInBounds_toArray, List.set_cons_zero, List.set_cons_succ, List.getElem_toArray, List.getElem_cons_zero, List.getElem_cons_succ]
        refine wpAnyH_take (i := 5) (v := ?v6) rfl (by kernel_rfl) (by kernel_rfl) (by kernel_rfl) (fun _ _ _ h => h) (Or.inl ⟨by rfl, ?hy6⟩) (by assumption) ?rest6
        case hy6 => (intro w hSw; (try dsimp only at hSw); go_simp; (first | done | with_reducible rfl))
        simp only [Act.put, List.setIfInBounds_toArray, List.set_cons_zero, List.set_cons_succ, List.getElem_toArray, List.getElem_cons_zero, List.getElem_cons_succ]
        refine wpAnyH_take (i := 6) (v := ?v7) rfl (by kernel_rfl) (by kernel_rfl) (by kernel_rfl) (fun _ _ _ h => h) (Or.inl ⟨by rfl, ?hy7⟩) (by assumption) ?rest7
        case hy7 => (intro w hSw; (try dsimp only at hSw); go_simp; (first | done | with_reducible rfl))
        simp only [Act.put, List.setIfInBounds_toArray, List.set_cons_zero, List.set_cons_succ, List.getElem_toArray, List.getElem_cons_zero, List.getElem_cons_succ]
        refine wpAnyH_ready (rs := [7]) (by kernel_rfl) (by simp) ?_
        refine AllReadyH.cons rfl (fun K hK => ?_) AllReadyH.nil
        simp only [List.getElem_toArray, List.getElem_cons_zero, List.getElem_cons_succ]
        obtain ⟨h_0, h_1, h_2, h_3, h_4, h_5, h_6, h_7, h_8, h_9, h_10, h_11, h_12, h_13, h_B⟩ := hHeld
        go_simp
        go_at_call 14
        refine (HNE.out _ (V5.out.later h_B)).mono ?_
        rintro e w6 ⟨rfl, b6⟩
        go_wp2_with fail
        refine hK.out _ _ ⟨cell_step b6 h_0, cell_step b6 h_1, cell_step b6 h_2, cell_step b6 h_3, cell_step b6 h_4, cell_step b6 h_5, cell_step b6 h_6, cell_step b6 h_7, cell_step b6 h_8, cell_step b6 h_9, cell_step b6 h_10, cell_step b6 h_11, cell_step b6 h_12, cell_step b6 h_13, below_step h_B b6⟩ (fun hHeld => ?_)
        clear hK K h_0 h_1 h_2 h_3 h_4 h_5 h_6 h_7 h_8 h_9 h_10 h_11 h_12 h_13 h_B b6
        try simp only [Act.put, List.setIfInBounds_toArray, List.set_cons_zero, List.set_cons_succ, List.getElem_toArray, List.getElem_cons_zero, List.getElem_cons_succ]
        refine wpAnyH_take (i := 8) (v := ?v8) rfl (by kernel_rfl) (by kernel_rfl) (by kernel_rfl) (fun _ _ _ h => h) (Or.inl ⟨by rfl, ?hy8⟩) (by assumption) ?rest8
        case hy8 => (intro w hSw; (try dsimp only at hSw); go_simp; (first | done | with_reducible rfl))
        simp only [Act.put, List.setIfInBounds_toArray, List.set_cons_zero, List.set_cons_succ, List.getElem_toArray, List.getElem_cons_zero, List.getElem_cons_succ]
        refine wpAnyH_done (by kernel_rfl) ?_ _
        obtain ⟨-, -, -, -, -, -, -, -, -, -, -, -, -, -, h_B⟩ := hHeld
        have B6 := Lib.hid (below_step B5.out h_B)
        clear h_B c12 c14 k0 k1 k2 k3 k4 k5 k6 k7 k8 k9 k10 k11
        by_cases hn : (ds.length : Int) < nz
        · have d1 : decide ((ds.length : Int) < nz) = true := by simpa using hn
          have H := Lib.hid (show ci = 8 by rw [EI3.out, if_pos hn])
          go_wp2_with fail
          go_ret
          exact ⟨by rw [H.out]; rfl, B6.out⟩
        · have d1 : decide ((ds.length : Int) < nz) = false := by simpa using hn
          have H := Lib.hid (show ci = 0 by rw [EI3.out, if_neg hn])
          go_wp2_with fail
          go_ret
          exact ⟨by rw [H.out]; rfl, B6.out⟩
  · have H := Lib.hid (HIC.out _ rfl hz)
    have g5 : (codeC ss sh wk ba mi st bu ch wi ca != 0) = true := by simpa using hz
    clear hz HNE HZR HIC HIZ
    generalize codeC ss sh wk ba mi st bu ch wi ca = cdd at *
    go_wp2_with fail
    go_ret
    exact ⟨by rw [H.out]; rfl, B3.out⟩
end Go.Proofs.Ytolmdhhbhohndaa
