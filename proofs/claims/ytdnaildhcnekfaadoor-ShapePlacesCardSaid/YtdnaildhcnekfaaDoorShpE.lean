/- Layer 8: places. -/
import Derived.Test.YtdnaildhcnekfaaDoorShpD
namespace Go.Proofs.YtdnaildhcnekfaaDoor
open Go.RowKit
set_option linter.unusedVariables false
theorem findR_spec (i : Int) (rs : List (Int × Int)) (k : Nat) (h : 0 ≤ findR i rs k) : ∃ j r, findR i rs k = ((k + j : Nat) : Int) ∧ rs[j]? = some r ∧ r.1 ≤ i ∧ i < r.2 := by
  induction rs generalizing k with
  | nil => simp [findR] at h
  | cons r rs ih =>
    unfold findR at h ⊢
    by_cases hr : r.1 ≤ i ∧ i < r.2
    · rw [if_pos hr]
      exact ⟨0, r, rfl, rfl, hr.1, hr.2⟩
    · rw [if_neg hr] at h ⊢
      obtain ⟨j, r', h1, h2, h3⟩ := ih (k + 1) h
      exact ⟨j + 1, r', by rw [h1]; congr 1; omega, h2, h3⟩
/-- link, row, column and whether there is one -/
def placeW (rs : List (Int × Int)) (ss : List Int) (i n : Int) : Int × Int × Int × Bool :=
  if n < 0 then (0, 0, 0, false)
  else if n.toNat % 2 = 1 then (((n.toNat / 2 : Nat) : Int), i - (rs[n.toNat]?.getD (0, 0)).1, -1, true)
  else (((n.toNat / 2 : Nat) : Int), (i - (rs[n.toNat]?.getD (0, 0)).1) / (ss[n.toNat / 2]?.getD 0), (i - (rs[n.toNat]?.getD (0, 0)).1) % (ss[n.toNat / 2]?.getD 0), true)
def placeP (ss : List Int) (i : Int) : Int × Int × Int × Bool := placeW (rangesL ss (ss.length - 1)) ss i (findR i (rangesL ss (ss.length - 1)) 0)
theorem ranges_lo {ss : List Int} (hr : RightH ss) : ∀ k, k < ss.length → ∀ (m : Nat) (r : Int × Int), (rangesL ss k)[m]? = some r → 0 ≤ r.1
  | 0, _, m, r, h => by simp [rangesL] at h
  | k + 1, hk, m, r, h => by
    unfold rangesL at h
    have h0 := st_range (k := k) hr.good (.inl (by omega))
    have g0 := goodB_iff.1 (hr.good k (by omega))
    have g1 := goodB_iff.1 (hr.good (k + 1) (by omega))
    rcases Nat.lt_or_ge m (rangesL ss k).length with hm | hm
    · rw [List.getElem?_append_left hm] at h
      exact ranges_lo hr k (by omega) m r h
    · rw [List.getElem?_append_right hm] at h
      have hp : 0 ≤ ss[k]?.getD 0 * ss[k + 1]?.getD 0 := Int.mul_nonneg (by omega) (by omega)
      have hb : 0 ≤ (bR ss k).1 := by
        unfold bR
        show 0 ≤ stTo ss k + (ss[k]?.getD 0 + 1) * ss[k + 1]?.getD 0 - ss[k + 1]?.getD 0
        rw [Int.add_mul, Int.one_mul]
        omega
      match hq : m - (rangesL ss k).length, h with
      | 0, h => simp at h; subst h; exact h0.1
      | 1, h => simp at h; subst h; exact hb
      | q + 2, h => simp at h
set_option maxRecDepth 4000 in
set_option maxHeartbeats 1000000 in
theorem place_any (N b : Nat) (ss : List Int) (hr : RightH ss) (i : Int) (hi : -9223372036854775808 ≤ i ∧ i ≤ 9223372036854775807) (w : World) (h : ShapeAt N b w ss) :
    Calls Tryd.prog 23 #[.pointer (some ⟨b, 0, none⟩), .int .i64 i] w fun e w' =>
      e = .returned (.tuple #[.int .i64 (placeP ss i).1, .int .i64 (placeP ss i).2.1, .int .i64 (placeP ss i).2.2.1, .bool (placeP ss i).2.2.2]) ∧ Below w.heap.size w w' := by
  have h16 := hr.l16
  have h2 := hr.l2
  have HR := ranges_any N b ss hr w h
  have H0 := Lib.hid h
  have hlen := rangesL_length ss (ss.length - 1)
  clear h
  obtain ⟨rs, hrs⟩ : ∃ rs, rs = rangesL ss (ss.length - 1) := ⟨_, rfl⟩
  rw [← hrs] at HR hlen
  have HRS := Lib.hid hrs
  clear hrs
  go_enter Tryd.func23, Tryd.ntmps23
  go_wp2_with fail
  refine HR.mono ?_
  rintro e w1 ⟨v, rfl, hv, b1⟩
  have HOF := of_any i v rs (by omega) w1 hv
  have HVV := Lib.hid hv
  have B1 := Lib.hid b1
  clear HR hv b1
  have hsp := findR_spec i rs 0
  have hrg := findR_range i rs 0
  have hdef : placeP ss i = placeW rs ss i (findR i rs 0) := by rw [HRS.out]; rfl
  generalize findR i rs 0 = n at *
  have HDEF := Lib.hid hdef
  clear hdef
  go_wp2_with fail
  refine HOF.mono ?_
  rintro e w2 ⟨rfl, b2⟩
  have B2 := Lib.hid (B1.out.trans (b2.mono B1.out.size))
  have HV2 := Lib.hid (HVV.out.later b2)
  clear HOF HVV B1 b2
  by_cases hn : n < 0
  · have g1 : decide (n < 0) = true := by simpa using hn
    clear hsp
    go_wp2_with fail
    refine bodyPost_ret (v := .tuple #[.int .i64 0, .int .i64 0, .int .i64 0, .bool false]) ?_ rfl ⟨by rw [HDEF.out]; unfold placeW; rw [if_pos hn], B2.out⟩
    simp [results, Tryd.results23, go_sem]
  · obtain ⟨m, r, rfl, hm, hr1, hr2⟩ := hsp (by omega)
    rw [Nat.zero_add] at *
    have hml : m < rs.length := by
      apply Nat.lt_of_not_le; intro hge
      rw [List.getElem?_eq_none hge] at hm; cases hm
    have g1 : decide ((m : Int) < 0) = false := by simp
    have q1 : (m : Int).tdiv 2 = ((m / 2 : Nat) : Int) := by rw [Int.tdiv_eq_ediv_of_nonneg (by omega)]; omega
    have q2 : IntKind.i64.wrap ((m / 2 : Nat) : Int) = ((m / 2 : Nat) : Int) := IntWalk.i64_in _ (by omega)
    have q3 : (m : Int).tmod 2 = ((m % 2 : Nat) : Int) := by rw [Int.tmod_eq_emod_of_nonneg (by omega)]; omega
    have q4 : IntKind.i64.wrap ((m % 2 : Nat) : Int) = ((m % 2 : Nat) : Int) := IntWalk.i64_in _ (by omega)
    rcases HV2.out.form with ⟨_, e0⟩ | ⟨g, off, cap, rfl, hcap, hb, hcs⟩
    · rw [e0] at hml; simp at hml
    obtain ⟨d0, _⟩ := hcs m hml
    have e1 : rs[m] = r := by rw [List.getElem?_eq_getElem hml] at hm; exact Option.some.inj hm
    rw [e1] at d0
    obtain ⟨lo, up⟩ := r
    dsimp only at d0 hr1 hr2
    have i0 : (0 : Int) ≤ (m : Int) := by omega
    have i1 : (m : Int) < (rs.length : Int) := by omega
    have HD2 : Hid (placeP ss i = if m % 2 = 1 then (((m / 2 : Nat) : Int), i - lo, -1, true) else (((m / 2 : Nat) : Int), (i - lo) / (ss[m / 2]?.getD 0), (i - lo) % (ss[m / 2]?.getD 0), true)) := Lib.hid (by
      rw [HDEF.out]
      unfold placeW
      rw [if_neg hn, Int.toNat_natCast, hm]
      rfl)
    have hlo : 0 ≤ lo := ranges_lo hr (ss.length - 1) (by omega) m (lo, up) (by rw [← HRS.out]; exact hm)
    have ws : IntKind.i64.wrap (i - lo) = i - lo := IntWalk.i64_in _ (by omega)
    clear hcs HDEF e1 hm
    obtain ⟨x, hx⟩ : ∃ x, x = i - lo := ⟨_, rfl⟩
    have hx0 : 0 ≤ x := by omega
    rw [← hx] at ws HD2
    have hx2 : i - lo = x := hx.symm
    clear hx
    by_cases ho : m % 2 = 1
    · have g2 : (((m % 2 : Nat) : Int) == 1) = true := by rw [ho]; rfl
      rw [if_pos ho] at HD2
      rw [ho] at q3 q4
      generalize m / 2 = k at *
      go_wp2_with fail
      refine bodyPost_ret (v := .tuple #[.int .i64 k, .int .i64 x, .int .i64 (-1), .bool true]) ?_ rfl ⟨by rw [HD2.out], B2.out⟩
      simp [results, Tryd.results23, go_sem]
    · have hm0 : m % 2 = 0 := by omega
      have g2 : (((m % 2 : Nat) : Int) == 1) = false := by rw [hm0]; rfl
      rw [if_neg ho] at HD2
      rw [hm0] at q3 q4
      have hkl : m / 2 < ss.length := by omega
      generalize m / 2 = k at *
      obtain ⟨s, hs⟩ : ∃ s, s = ss[k]?.getD 0 := ⟨_, rfl⟩
      have gs := goodB_iff.1 (hr.good k hkl)
      rw [← hs] at HD2 gs
      obtain ⟨h0', hb', h2', v', u', c0, c1, o0, o1⟩ := (H0.out.later B2.out)
      obtain ⟨g0, cc0, rfl, hg3, hg4⟩ := own_some o0 (by omega)
      have ds := o0.cellAt k (by omega)
      have e2 : (ss.map (Value.int .i64))[k]? = some (.int .i64 s) := by rw [List.getElem?_map, hs, List.getElem?_eq_getElem hkl]; rfl
      rw [e2] at ds
      have t1 : x.tdiv s = x / s := Int.tdiv_eq_ediv_of_nonneg hx0
      have t2 : x.tmod s = x % s := Int.tmod_eq_emod_of_nonneg hx0
      have t3 : 0 ≤ x / s := Int.ediv_nonneg hx0 (by omega)
      have t4 : x / s ≤ x := Int.ediv_le_self s hx0
      have t5 := Int.emod_nonneg x (show s ≠ 0 by omega)
      have t6 := Int.emod_lt_of_pos x (show 0 < s by omega)
      have t7 : IntKind.i64.wrap (x / s) = x / s := IntWalk.i64_in _ (by omega)
      have t8 : IntKind.i64.wrap (x % s) = x % s := IntWalk.i64_in _ (by omega)
      have t9 : (s == 0) = false := by simp; omega
      have t10 : s ≠ 0 := by omega
      have j0 : (0 : Int) ≤ (k : Int) := by omega
      have j1 : (k : Int) < (ss.length : Int) := by omega
      clear e2 o0 o1 hs c1 H0
      generalize x / s = y1 at *
      generalize x % s = y2 at *
      go_upto_region 9 with fail
      refine wp_region_held_drew (S := fun w' => w'.cell? ⟨b, 0, none⟩ = some (.slice (some ⟨g0, 0, none⟩) ss.length cc0) ∧ w'.cell? ⟨g0, k, none⟩ = some (.int .i64 s)) (by kernel_rfl) ?_ (fun hHeld => ?_)
      · exact ⟨c0, ds⟩
      refine wpAnyH_take (i := 0) (v := ?v1) rfl (by kernel_rfl) (by kernel_rfl) (by kernel_rfl) (fun _ _ _ h => h) (Or.inl ⟨by rfl, ?hy1⟩) (by assumption) ?rest1
      case hy1 => (intro w hSw; (try dsimp only at hSw); go_simp; (first | done | with_reducible rfl))
      simp only [Act.put, List.setIfInBounds_toArray, List.set_cons_zero, List.set_cons_succ, List.getElem_toArray, List.getElem_cons_zero]
      refine wpAnyH_take (i := 1) (v := ?v2) rfl (by kernel_rfl) (by kernel_rfl) (by kernel_rfl) (fun _ _ _ h => h) (Or.inl ⟨by rfl, ?hy2⟩) (by assumption) ?rest2
      case hy2 => (intro w hSw; (try dsimp only at hSw); go_simp; (first | done | with_reducible rfl))
      simp only [Act.put, List.setIfInBounds_toArray, List.set_cons_zero, List.set_cons_succ, List.getElem_toArray, List.getElem_cons_zero, List.getElem_cons_succ]
      refine wpAnyH_take (i := 2) (v := ?v3) rfl (by kernel_rfl) (by kernel_rfl) (by kernel_rfl) (fun _ _ _ h => h) (Or.inl ⟨by rfl, ?hy3⟩) (by assumption) ?rest3
      case hy3 => (intro w hSw; (try dsimp only at hSw); go_simp; (first | done | with_reducible rfl))
      simp only [Act.put, List.setIfInBounds_toArray, List.set_cons_zero, List.set_cons_succ, List.getElem_toArray, List.getElem_cons_zero, List.getElem_cons_succ]
      refine wpAnyH_take (i := 3) (v := ?v4) rfl (by kernel_rfl) (by kernel_rfl) (by kernel_rfl) (fun _ _ _ h => h) (Or.inl ⟨by rfl, ?hy4⟩) (by assumption) ?rest4
      case hy4 => (intro w hSw; (try dsimp only at hSw); go_simp; (first | done | with_reducible rfl))
      simp only [Act.put, List.setIfInBounds_toArray, List.set_cons_zero, List.set_cons_succ, List.getElem_toArray, List.getElem_cons_zero, List.getElem_cons_succ]
      refine wpAnyH_take (i := 4) (v := ?v5) rfl (by kernel_rfl) (by kernel_rfl) (by kernel_rfl) (fun _ _ _ h => h) (Or.inl ⟨by rfl, ?hy5⟩) (by assumption) ?rest5
      case hy5 => (intro w hSw; (try dsimp only at hSw); go_simp; (first | done | with_reducible rfl))
      simp only [Act.put, List.setIfInBounds_toArray, List.set_cons_zero, List.set_cons_succ, List.getElem_toArray, List.getElem_cons_zero, List.getElem_cons_succ]
      refine wpAnyH_take (i := 5) (v := ?v6) rfl (by kernel_rfl) (by kernel_rfl) (by kernel_rfl) (fun _ _ _ h => h) (Or.inl ⟨by rfl, ?hy6⟩) (by assumption) ?rest6
      case hy6 => (intro w hSw; (try dsimp only at hSw); go_simp; (first | done | with_reducible rfl))
      simp only [Act.put, List.setIfInBounds_toArray, List.set_cons_zero, List.set_cons_succ, List.getElem_toArray, List.getElem_cons_zero, List.getElem_cons_succ]
      refine wpAnyH_take (i := 6) (v := ?v7) rfl (by kernel_rfl) (by kernel_rfl) (by kernel_rfl) (fun _ _ _ h => h) (Or.inl ⟨by rfl, ?hy7⟩) (by assumption) ?rest7
      case hy7 => (intro w hSw; (try dsimp only at hSw); go_simp; (first | done | with_reducible rfl))
      simp only [Act.put, List.setIfInBounds_toArray, List.set_cons_zero, List.set_cons_succ, List.getElem_toArray, List.getElem_cons_zero, List.getElem_cons_succ]
      refine wpAnyH_take (i := 7) (v := ?v8) rfl (by kernel_rfl) (by kernel_rfl) (by kernel_rfl) (fun _ _ _ h => h) (Or.inl ⟨by rfl, ?hy8⟩) (by assumption) ?rest8
      case hy8 => (intro w hSw; (try dsimp only at hSw); go_simp; (first | done | with_reducible rfl))
      simp only [Act.put, List.setIfInBounds_toArray, List.set_cons_zero, List.set_cons_succ, List.getElem_toArray, List.getElem_cons_zero, List.getElem_cons_succ]
      refine wpAnyH_take (i := 8) (v := ?v9) rfl (by kernel_rfl) (by kernel_rfl) (by kernel_rfl) (fun _ _ _ h => h) (Or.inl ⟨by rfl, ?hy9⟩) (by assumption) ?rest9
      case hy9 => (intro w hSw; (try dsimp only at hSw); go_simp; (first | done | with_reducible rfl))
      simp only [Act.put, List.setIfInBounds_toArray, List.set_cons_zero, List.set_cons_succ, List.getElem_toArray, List.getElem_cons_zero, List.getElem_cons_succ]
      refine wpAnyH_take (i := 9) (v := ?v10) rfl (by kernel_rfl) (by kernel_rfl) (by kernel_rfl) (fun _ _ _ h => h) (Or.inl ⟨by rfl, ?hy10⟩) (by assumption) ?rest10
      case hy10 => (intro w hSw; (try dsimp only at hSw); go_simp; (first | done | with_reducible rfl))
      simp only [Act.put, List.setIfInBounds_toArray, List.set_cons_zero, List.set_cons_succ, List.getElem_toArray, List.getElem_cons_zero, List.getElem_cons_succ]
      refine wpAnyH_take (i := 10) (v := ?v11) rfl (by kernel_rfl) (by kernel_rfl) (by kernel_rfl) (fun _ _ _ h => h) (Or.inl ⟨by rfl, ?hy11⟩) (by assumption) ?rest11
      case hy11 => (intro w hSw; (try dsimp only at hSw); go_simp; (first | done | with_reducible rfl))
      simp only [Act.put, List.setIfInBounds_toArray, List.set_cons_zero, List.set_cons_succ, List.getElem_toArray, List.getElem_cons_zero, List.getElem_cons_succ]
      refine wpAnyH_take (i := 11) (v := ?v12) rfl (by kernel_rfl) (by kernel_rfl) (by kernel_rfl) (fun _ _ _ h => h) (Or.inl ⟨by rfl, ?hy12⟩) (by assumption) ?rest12
      case hy12 => (intro w hSw; (try dsimp only at hSw); go_simp; (first | done | with_reducible rfl))
      simp only [Act.put, List.setIfInBounds_toArray, List.set_cons_zero, List.set_cons_succ, List.getElem_toArray, List.getElem_cons_zero, List.getElem_cons_succ]
      refine wpAnyH_take (i := 12) (v := ?v13) rfl (by kernel_rfl) (by kernel_rfl) (by kernel_rfl) (fun _ _ _ h => h) (Or.inl ⟨by rfl, ?hy13⟩) (by assumption) ?rest13
      case hy13 => (intro w hSw; (try dsimp only at hSw); go_simp; (first | done | with_reducible rfl))
      simp only [Act.put, List.setIfInBounds_toArray, List.set_cons_zero, List.set_cons_succ, List.getElem_toArray, List.getElem_cons_zero, List.getElem_cons_succ]
      refine wpAnyH_take (i := 13) (v := ?v14) rfl (by kernel_rfl) (by kernel_rfl) (by kernel_rfl) (fun _ _ _ h => h) (Or.inl ⟨by rfl, ?hy14⟩) (by assumption) ?rest14
      case hy14 => (intro w hSw; (try dsimp only at hSw); go_simp; (first | done | with_reducible rfl))
      simp only [Act.put, List.setIfInBounds_toArray, List.set_cons_zero, List.set_cons_succ, List.getElem_toArray, List.getElem_cons_zero, List.getElem_cons_succ]
      refine wpAnyH_take (i := 14) (v := ?v15) rfl (by kernel_rfl) (by kernel_rfl) (by kernel_rfl) (fun _ _ _ h => h) (Or.inl ⟨by rfl, ?hy15⟩) (by assumption) ?rest15
      case hy15 => (intro w hSw; (try dsimp only at hSw); go_simp; (first | done | with_reducible rfl))
      simp only [Act.put, List.setIfInBounds_toArray, List.set_cons_zero, List.set_cons_succ, List.getElem_toArray, List.getElem_cons_zero, List.getElem_cons_succ]
      refine wpAnyH_take (i := 15) (v := ?v16) rfl (by kernel_rfl) (by kernel_rfl) (by kernel_rfl) (fun _ _ _ h => h) (Or.inl ⟨by rfl, ?hy16⟩) (by assumption) ?rest16
      case hy16 => (intro w hSw; (try dsimp only at hSw); go_simp; (first | done | with_reducible rfl))
      simp only [Act.put, List.setIfInBounds_toArray, List.set_cons_zero, List.set_cons_succ, List.getElem_toArray, List.getElem_cons_zero, List.getElem_cons_succ]
      refine wpAnyH_take (i := 16) (v := ?v17) rfl (by kernel_rfl) (by kernel_rfl) (by kernel_rfl) (fun _ _ _ h => h) (Or.inl ⟨by rfl, ?hy17⟩) (by assumption) ?rest17
      case hy17 => (intro w hSw; (try dsimp only at hSw); go_simp; (first | done | with_reducible rfl))
      simp only [Act.put, List.setIfInBounds_toArray, List.set_cons_zero, List.set_cons_succ, List.getElem_toArray, List.getElem_cons_zero, List.getElem_cons_succ]
      refine wpAnyH_take (i := 17) (v := ?v18) rfl (by kernel_rfl) (by kernel_rfl) (by kernel_rfl) (fun _ _ _ h => h) (Or.inl ⟨by rfl, ?hy18⟩) (by assumption) ?rest18
      case hy18 => (intro w hSw; (try dsimp only at hSw); go_simp; (first | done | with_reducible rfl))
      simp only [Act.put, List.setIfInBounds_toArray, List.set_cons_zero, List.set_cons_succ, List.getElem_toArray, List.getElem_cons_zero, List.getElem_cons_succ]
      refine wpAnyH_take (i := 18) (v := ?v19) rfl (by kernel_rfl) (by kernel_rfl) (by kernel_rfl) (fun _ _ _ h => h) (Or.inl ⟨by rfl, ?hy19⟩) (by assumption) ?rest19
      case hy19 => (intro w hSw; (try dsimp only at hSw); go_simp; (first | done | with_reducible rfl))
      simp only [Act.put, List.setIfInBounds_toArray, List.set_cons_zero, List.set_cons_succ, List.getElem_toArray, List.getElem_cons_zero, List.getElem_cons_succ]
      refine wpAnyH_take (i := 19) (v := ?v20) rfl (by kernel_rfl) (by kernel_rfl) (by kernel_rfl) (fun _ _ _ h => h) (Or.inl ⟨by rfl, ?hy20⟩) (by assumption) ?rest20
      case hy20 => (intro w hSw; (try dsimp only at hSw); go_simp; (first | done | with_reducible rfl))
      simp only [Act.put, List.setIfInBounds_toArray, List.set_cons_zero, List.set_cons_succ, List.getElem_toArray, List.getElem_cons_zero, List.getElem_cons_succ]
      refine wpAnyH_take (i := 20) (v := ?v21) rfl (by kernel_rfl) (by kernel_rfl) (by kernel_rfl) (fun _ _ _ h => h) (Or.inl ⟨by rfl, ?hy21⟩) (by assumption) ?rest21
      case hy21 => (intro w hSw; (try dsimp only at hSw); go_simp; (first | done | with_reducible rfl))
      simp only [Act.put, List.setIfInBounds_toArray, List.set_cons_zero, List.set_cons_succ, List.getElem_toArray, List.getElem_cons_zero, List.getElem_cons_succ]
      refine wpAnyH_take (i := 21) (v := ?v22) rfl (by kernel_rfl) (by kernel_rfl) (by kernel_rfl) (fun _ _ _ h => h) (Or.inl ⟨by rfl, ?hy22⟩) (by assumption) ?rest22
      case hy22 => (intro w hSw; (try dsimp only at hSw); go_simp; (first | done | with_reducible rfl))
      simp only [Act.put, List.setIfInBounds_toArray, List.set_cons_zero, List.set_cons_succ, List.getElem_toArray, List.getElem_cons_zero, List.getElem_cons_succ]
      refine wpAnyH_take (i := 22) (v := ?v23) rfl (by kernel_rfl) (by kernel_rfl) (by kernel_rfl) (fun _ _ _ h => h) (Or.inl ⟨by rfl, ?hy23⟩) (by assumption) ?rest23
      case hy23 => (intro w hSw; (try dsimp only at hSw); go_simp; (first | done | with_reducible rfl))
      simp only [Act.put, List.setIfInBounds_toArray, List.set_cons_zero, List.set_cons_succ, List.getElem_toArray, List.getElem_cons_zero, List.getElem_cons_succ]
      refine wpAnyH_done (by kernel_rfl) ?_ _
      have B3 := Lib.hid (B2.out.drew)
      clear hHeld
      go_wp2_with fail
      refine bodyPost_ret (v := .tuple #[.int .i64 k, .int .i64 y1, .int .i64 y2, .bool true]) ?_ rfl ⟨by rw [HD2.out], B3.out⟩
      simp [results, Tryd.results23, go_sem]
end Go.Proofs.YtdnaildhcnekfaaDoor
