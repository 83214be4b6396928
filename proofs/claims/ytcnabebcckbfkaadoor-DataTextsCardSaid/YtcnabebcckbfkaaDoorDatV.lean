/- Layer 10: Same, SameAll, Few, the reference's Pick. -/
import Derived.Test.YtcnabebcckbfkaaDoorDatU
import Derived.Deep.Cut
namespace Go.Proofs.YtcnabebcckbfkaaDoor
open Go.RowKit
set_option linter.unusedVariables false
def FewX (es : List Ex) (w : World) (e : Ending) (w' : World) : Prop := (∃ b : Bool, e = .returned (.bool b) ∧ (b = true → es.length ≤ 60 ∧ ∀ j, j < es.length → (exAt es j).1.length ≤ 600 ∧ (exAt es j).2.length ≤ 600)) ∧ Below w.heap.size w w'
set_option maxHeartbeats 2000000 in
theorem fewX_any (v : Value) (es : List Ex) (hm : es.length ≤ maxLen) (w : World) (hv : ExsAt w.heap.size w v es) :
    Calls Tryd.prog 9 #[v] w (FewX es w) := by
  obtain ⟨a, c, rfl⟩ := hv.value
  have HV := Lib.hid hv
  have B0 := Lib.hid (Below.refl w.heap.size w)
  clear hv
  unfold maxLen at hm
  go_enter Tryd.func9, Tryd.ntmps9
  go_wp2_with fail
  go_loopw [3, 4] (fun nv iv wr => ∃ k s : Nat, k ≤ es.length ∧ k ≤ 100 ∧ s ≤ k * 2000 ∧ iv = .int .i64 k ∧ nv = .int .i64 s ∧ Hid (∀ j, j < k → min (exAt es j).1.length 1000 ≤ s ∧ min (exAt es j).2.length 1000 ≤ s) ∧ Hid (Below w.heap.size w wr)) (fun _ iv _ => 100 - (intOf iv).toNat)
  case atStart => exact ⟨0, 0, Nat.zero_le _, Nat.zero_le _, Nat.zero_le _, rfl, rfl, Lib.hid (fun j hj => absurd hj (Nat.not_lt_zero j)), B0⟩
  case round =>
    obtain ⟨k, s, hk, hk100, hs, rfl, rfl, HS, HB⟩ := hrel
    by_cases hlt : k < es.length ∧ k < 100
    · obtain ⟨hl1, hl2⟩ := hlt
      obtain ⟨b, off, rfl, hb, ax, cx, ay, cy, c0, c1, -, -⟩ := (HV.out.below HB.out).at hl1
      have hbw : b < wr.heap.size := World.block_lt_of_cell? _ _ c0
      have HS2 : Hid (∀ mx my : Nat, min ((exAt es k).1.length : Int) 1000 = mx → min ((exAt es k).2.length : Int) 1000 = my → ∀ j, j < k + 1 → min (exAt es j).1.length 1000 ≤ s + mx + my ∧ min (exAt es j).2.length 1000 ≤ s + mx + my) := Lib.hid (fun mx my h1 h2 j hj => by
        rcases Nat.lt_succ_iff_lt_or_eq.1 hj with h | rfl
        · have := HS.out j h; omega
        · omega)
      generalize (exAt es k).1.length = lx at *
      generalize (exAt es k).2.length = ly at *
      obtain ⟨mx, hmx⟩ : ∃ mx : Nat, min (lx : Int) 1000 = mx := ⟨min lx 1000, by omega⟩
      obtain ⟨my, hmy⟩ : ∃ my : Nat, min (ly : Int) 1000 = my := ⟨min ly 1000, by omega⟩
      have HS3 := Lib.hid (HS2.out mx my hmx hmy)
      have b1 : mx ≤ 1000 := by omega
      clear HS2
      have b2 : my ≤ 1000 := by omega
      go_wp2_with fail
      go_region
      have B2 := Lib.hid HB.out.drew
      go_wp2_with fail
      go_roundw
      case rel => exact ⟨k + 1, s + mx + my, by omega, by omega, by omega, by go_num, by go_num, HS3, B2⟩
      case measure => simp [intOf]; omega
    · have g : es.length ≤ k ∨ 100 ≤ k := by omega
      by_cases g1 : (es.length : Int) ≤ 60
      · have d1 : decide ((es.length : Int) ≤ 60) = true := by simpa using g1
        have g1' : es.length ≤ 60 := by omega
        have g2 : es.length ≤ k := by omega
        by_cases g4 : (s : Int) ≤ 600
        · have d4 : decide ((s : Int) ≤ 600) = true := by simpa using g4
          have HQ : Hid (∀ j, j < es.length → (exAt es j).1.length ≤ 600 ∧ (exAt es j).2.length ≤ 600) := Lib.hid (fun j hj => by have := HS.out j (by omega); omega)
          go_wp2_with fail
          go_ret
          exact ⟨⟨_, rfl, fun _ => ⟨g1', HQ.out⟩⟩, HB.out⟩
        · have d4 : decide ((s : Int) ≤ 600) = false := by simpa using g4
          go_wp2_with fail
          go_ret
          exact ⟨⟨_, rfl, fun h => by simp at h⟩, HB.out⟩
      · have d1 : decide ((es.length : Int) ≤ 60) = false := by simpa using g1
        rcases g with g | g
        · go_wp2_with fail
          go_ret
          exact ⟨⟨_, rfl, fun h => by simp at h⟩, HB.out⟩
        · by_cases g3 : k < es.length
          · go_wp2_with fail
            go_ret
            exact ⟨⟨_, rfl, fun h => by simp at h⟩, HB.out⟩
          · go_wp2_with fail
            go_ret
            exact ⟨⟨_, rfl, fun h => by simp at h⟩, HB.out⟩
/-- what picking gives: aliases of the examples with the indices, which lie below n₀ -/
def PickedN (n₀ : Nat) (es : List Ex) (xs : List Int) (w : World) (e : Ending) (w' : World) : Prop :=
  (okP es xs ∧ ∃ v cells, e = .returned (.tuple #[v, .bool true]) ∧ w'.ownsRow w.heap.size 24 2 v xs.length cells ∧ PairsA n₀ w' cells (pickD es xs) xs.length ∧ Below w.heap.size w w') ∨
  (¬ okP es xs ∧ e = .returned (.tuple #[.slice none 0 0, .bool false]) ∧ Below w.heap.size w w')
set_option maxHeartbeats 4000000 in
theorem refPickN_any (n₀ : Nat) (lv v : Value) (es : List Ex) (xs : List Int) (hl : es.length ≤ 1000) (hx : xs.length ≤ 1000) (w : World) (hn0 : n₀ ≤ w.heap.size) (hlv : ExsAt n₀ w lv es) (hv : IntsW .i64 w.heap.size w v xs) :
    Calls Tryd.prog 20 #[lv, v] w (PickedN n₀ es xs w) := by
  obtain ⟨a, c, rfl⟩ := hv.value
  obtain ⟨la, lc, rfl⟩ := hlv.value
  have HV := Lib.hid hv
  have HLV := Lib.hid hlv
  have X0 := Lib.hid (And.intro (World.ownsRow_nil w w.heap.size 24 2) (And.intro (PairsA.nil n₀ w (pickD es xs)) (Below.refl w.heap.size w)))
  have HOK0 : Hid (∀ j, j < 0 → 0 ≤ xs[j]?.getD 0 ∧ xs[j]?.getD 0 < (es.length : Int)) := Lib.hid (fun j hj => absurd hj (Nat.not_lt_zero j))
  clear hv hlv
  generalize hN : w.heap.size = N at *
  go_enter Tryd.func20, Tryd.ntmps20
  go_wp2_with fail
  go_loopw [6, 7, 8] (fun rv iv _ wr => ∃ k : Nat, ∃ cells : List Value, k ≤ xs.length ∧ iv = .int .i64 k ∧ Hid (∀ j, j < k → 0 ≤ xs[j]?.getD 0 ∧ xs[j]?.getD 0 < (es.length : Int)) ∧ Hid (wr.ownsRow N 24 2 rv k cells ∧ PairsA n₀ wr cells (pickD es xs) k ∧ Below N w wr)) (fun _ iv _ _ => xs.length - (intOf iv).toNat)
  case atStart => exact ⟨0, [], Nat.zero_le _, rfl, HOK0, X0⟩
  case round =>
    clear X0 HOK0
    obtain ⟨k, cells, hk, rfl, HOK, HX⟩ := hrel
    have hNw : N ≤ wr.heap.size := by have := HX.out.2.2.size; omega
    by_cases hlt : k < xs.length
    · obtain ⟨b, off, rfl, hb, hc⟩ := HV.out.at' k hlt
      have c1 := (HX.out.2.2.cell (p := ⟨b, off + k, none⟩) hb).trans hc
      have i0 : (0 : Int) ≤ (k : Int) := by omega
      have i1 : (k : Int) < (xs.length : Int) := by omega
      obtain ⟨ra, rc, rfl⟩ := own_value HX.out.1
      by_cases hin : 0 ≤ xs[k]?.getD 0 ∧ xs[k]?.getD 0 < (es.length : Int)
      · obtain ⟨i, hi⟩ : ∃ i : Nat, xs[k]?.getD 0 = (i : Int) := ⟨(xs[k]?.getD 0).toNat, by omega⟩
        have hil : i < es.length := by omega
        have HPA := Lib.hid (pickD_at es xs k hlt)
        rw [hi, Int.toNat_natCast] at HPA
        have HOK2 : Hid (∀ j, j < k + 1 → 0 ≤ xs[j]?.getD 0 ∧ xs[j]?.getD 0 < (es.length : Int)) := Lib.hid (fun j hj => by
          rcases Nat.lt_succ_iff_lt_or_eq.1 hj with h | rfl
          · exact HOK.out j h
          · exact hin)
        obtain ⟨b2, off2, e2, hb2, ax, cx, ay, cy, d0, d1, ix, iy⟩ := (HLV.out.below (HX.out.2.2.mono hn0)).at hil
        cases e2
        rw [hi] at c1
        have HIX := Lib.hid (And.intro ix iy)
        have j0 : (0 : Int) ≤ (i : Int) := by omega
        have j1 : (i : Int) < (es.length : Int) := by omega
        have g1 : decide ((i : Int) < 0) = false := by simp
        have g2 : decide ((es.length : Int) ≤ (i : Int)) = false := by simp; omega
        have OR := Lib.hid HX.out.1
        clear hc hin hi ix iy
        go_wp2_with (at_builtin; refine append_one_lies (g := wr.heap.size) elemX rfl _ _ rfl rfl rfl rfl OR.out rfl ?_ ?_ ?_ ?_ ?_; (simp [Value.oneCell']); (unfold maxLen; omega); omega; (exact hNw); intro b' cap' w9 ho' hg' hat9; have B9 := below_appended (Below.refl N wr) OR.out hg' (Nat.le_refl N) hNw; have X9 := Lib.hid (And.intro ho' (And.intro ((HX.out.2.1.below (B9.mono hn0)).snoc (by rw [HPA.out]; exact HIX.out.1.below (B9.mono hn0)) (by rw [HPA.out]; exact HIX.out.2.below (B9.mono hn0))) (HX.out.2.2.trans B9))); clear ho' hg' hat9 B9)
        go_roundw
        case rel => exact ⟨k + 1, _, by omega, by go_num, HOK2, X9⟩
        case measure => simp [intOf]; omega
      · have HNO : Hid (¬ okP es xs) := Lib.hid (fun h => hin (h k hlt))
        have hbad : xs[k]?.getD 0 < 0 ∨ (es.length : Int) ≤ xs[k]?.getD 0 := by omega
        clear hc hin
        generalize xs[k]?.getD 0 = x at *
        by_cases hneg : x < 0
        · have g1 : decide (x < 0) = true := by simpa using hneg
          go_wp2_with fail
          go_ret2
          unfold PickedN
          rw [hN]
          exact .inr ⟨HNO.out, rfl, HX.out.2.2⟩
        · have g1 : decide (x < 0) = false := by simpa using hneg
          have g2 : (es.length : Int) ≤ x := by omega
          have g3 : decide ((es.length : Int) ≤ x) = true := by simpa using g2
          go_wp2_with fail
          go_ret2
          unfold PickedN
          rw [hN]
          exact .inr ⟨HNO.out, rfl, HX.out.2.2⟩
    · have hke : k = xs.length := by omega
      subst hke
      have i0 : ¬ (xs.length : Int) < (xs.length : Int) := by omega
      obtain ⟨ra, rc, rfl⟩ := own_value HX.out.1
      go_wp2_with fail
      go_ret2
      unfold PickedN
      rw [hN]
      exact .inl ⟨HOK.out, _, cells, rfl, HX.out.1, HX.out.2.1, HX.out.2.2⟩
set_option maxHeartbeats 2000000 in
theorem sameX_any (v1 v2 u1 u2 : Value) (zx zy : List Int) (hx : zx.length ≤ 1000000) (hy : zy.length ≤ 1000000) (w : World) (i1 : IntsW .i64 w.heap.size w v1 zx) (i2 : IntsW .i64 w.heap.size w v2 zy) (i3 : IntsW .i64 w.heap.size w u1 zx) (i4 : IntsW .i64 w.heap.size w u2 zy) :
    Calls Tryd.prog 14 #[.agg #[v1, v2], .agg #[u1, u2]] w fun e w' => e = .returned (.bool true) ∧ Below w.heap.size w w' := by
  obtain ⟨a1, k1, rfl⟩ := i1.value
  obtain ⟨a2, k2, rfl⟩ := i2.value
  obtain ⟨a3, k3, rfl⟩ := i3.value
  obtain ⟨a4, k4, rfl⟩ := i4.value
  have HI := Lib.hid (And.intro i1 (And.intro i2 (And.intro i3 i4)))
  have T0 := Two.new w 24 (.slice a1 zx.length k1) (.slice a2 zy.length k2)
  have b1 := (Below.refl w.heap.size w).alloc (Nat.le_refl _) (.cells #[.slice a1 zx.length k1, .slice a2 zy.length k2] 24)
  have b2 := (Below.refl (w.alloc (.cells #[.slice a1 zx.length k1, .slice a2 zy.length k2] 24)).heap.size _).alloc (Nat.le_refl _) (.cells #[.slice a3 zx.length k3, .slice a4 zy.length k4] 24)
  have T1 := Two.new (w.alloc (.cells #[.slice a1 zx.length k1, .slice a2 zy.length k2] 24)) 24 (.slice a3 zx.length k3) (.slice a4 zy.length k4)
  rw [World.size_alloc] at T1
  have T0' := Lib.hid (T0.later b2)
  have T1' := Lib.hid T1
  have B2 := Lib.hid (below_step b1 b2)
  clear i1 i2 i3 i4 T0 T1 b1 b2
  go_enter Tryd.func14, Tryd.ntmps14
  go_upto_region 1 with fail
  generalize (w.alloc (.cells #[.slice a1 zx.length k1, .slice a2 zy.length k2] 24)).alloc (.cells #[.slice a3 zx.length k3, .slice a4 zy.length k4] 24) = w2 at *
  have hNs := B2.out.size
  generalize hN : w.heap.size = N at *
  obtain ⟨c0, c1⟩ := T0'.out.cells
  obtain ⟨d0, d1⟩ := T1'.out.cells
  have H1 := Lib.hid (refSame_w _ _ zx zx (by omega) (by omega) w2 ((HI.out.1.below B2.out).grow hNs) ((HI.out.2.2.1.below B2.out).grow hNs))
  rw [sameL_self] at H1
  go_wp2_with fail
  refine H1.out.mono ?_
  rintro e w3 ⟨rfl, b3⟩
  have c1' := cell_step b3 c1
  have d1' := cell_step b3 d1
  have B3 := Lib.hid (B2.out.trans (b3.mono hNs))
  have hNs3 : N ≤ w3.heap.size := Nat.le_trans hNs b3.size
  have H2 := Lib.hid (refSame_w _ _ zy zy (by omega) (by omega) w3 ((HI.out.2.1.below B3.out).grow hNs3) ((HI.out.2.2.2.below B3.out).grow hNs3))
  rw [sameL_self] at H2
  clear H1 b3 B2 c0 c1 d0 d1
  go_wp2_with fail
  refine H2.out.mono ?_
  rintro e w4 ⟨rfl, b4⟩
  have B4 := B3.out.trans (b4.mono hNs3)
  clear H2 b4
  go_wp2_with fail
  go_ret
  exact ⟨by first | rfl | (simp; done), by first | exact B4 | (rw [hN]; exact B4)⟩
set_option maxHeartbeats 4000000 in
theorem sameAllX_any (v u : Value) (es : List Ex) (hl : es.length ≤ 1000) (hm : ∀ k, k < es.length → (exAt es k).1.length ≤ 1000000 ∧ (exAt es k).2.length ≤ 1000000) (w : World) (hv : ExsAt w.heap.size w v es) (hu : ExsAt w.heap.size w u es) :
    Calls Tryd.prog 21 #[v, u] w fun e w' => e = .returned (.bool true) ∧ Below w.heap.size w w' := by
  obtain ⟨a, c, rfl⟩ := hv.value
  obtain ⟨a2, c2, rfl⟩ := hu.value
  have HV := Lib.hid hv
  have HU := Lib.hid hu
  have HM := Lib.hid hm
  have B0 := Lib.hid (Below.refl w.heap.size w)
  clear hv hu hm
  have hne : ((es.length : Int) != (es.length : Int)) = false := by simp
  generalize hN : w.heap.size = N at *
  go_enter Tryd.func21, Tryd.ntmps21
  go_wp2_with fail
  go_loopw [5] (fun iv wr => ∃ k : Nat, k ≤ es.length ∧ iv = .int .i64 k ∧ Hid (Below N w wr)) (fun iv _ => es.length - (intOf iv).toNat)
  case atStart => exact ⟨0, Nat.zero_le _, rfl, B0⟩
  case round =>
    clear B0
    obtain ⟨k, hk, rfl, HB⟩ := hrel
    have hNw : N ≤ wr.heap.size := by have := HB.out.size; omega
    by_cases hlt : k < es.length
    · obtain ⟨b, off, rfl, hb, ax, cx, ay, cy, c0, c1, i1, i2⟩ := (HV.out.below HB.out).at hlt
      obtain ⟨b', off', rfl, hb', ax', cx', ay', cy', d0, d1, i3, i4⟩ := (HU.out.below HB.out).at hlt
      have hm0 := HM.out k hlt
      have HI := Lib.hid (And.intro i1 (And.intro i2 (And.intro i3 i4)))
      have i0 : (0 : Int) ≤ (k : Int) := by omega
      have j1 : (k : Int) < (es.length : Int) := by omega
      have j3 : k ≤ 1000 := by omega
      clear i1 i2 i3 i4
      go_wp2_with fail
      refine wp_region_held_drew (S := fun w' => w'.cell? ⟨b, off + k * 2, none⟩ = some (.slice ax (exAt es k).1.length cx) ∧ w'.cell? ⟨b, off + k * 2 + 1, none⟩ = some (.slice ay (exAt es k).2.length cy) ∧ w'.cell? ⟨b', off' + k * 2, none⟩ = some (.slice ax' (exAt es k).1.length cx') ∧ w'.cell? ⟨b', off' + k * 2 + 1, none⟩ = some (.slice ay' (exAt es k).2.length cy') ∧ Below wr.heap.size wr w') (by kernel_rfl) ?_ (fun hHeld => ?_)
      · exact ⟨c0, c1, d0, d1, (Below.refl _ _).drew⟩
      clear c0 c1 d0 d1
      refine wpAnyH_take (i := 0) (v := ?v1) rfl (by kernel_rfl) (by kernel_rfl) (by kernel_rfl) (fun _ _ _ h => h) (Or.inl ⟨by rfl, ?hy1⟩) (by assumption) ?rest1
      case hy1 => (intro w hSw; (try dsimp only at hSw); go_simp; (first | done | with_reducible rfl))
      simp only [Act.put, List.setIfInBounds_toArray, List.set_cons_zero, List.set_cons_succ, List.getElem_toArray, List.getElem_cons_zero]
      refine wpAnyH_take (i := 1) (v := ?v2) rfl (by kernel_rfl) (by kernel_rfl) (by kernel_rfl) (fun _ _ _ h => h) (Or.inl ⟨by rfl, ?hy2⟩) (by assumption) ?rest2
      case hy2 => (intro w hSw; (try dsimp only at hSw); go_simp; (first | done | with_reducible rfl))
      simp only [Act.put, List.setIfInBounds_toArray, List.set_cons_zero, List.set_cons_succ, List.getElem_toArray, List.getElem_cons_zero, List.getElem_cons_succ]
      refine wpAnyH_take (i := 2) (v := ?v3) rfl (by kernel_rfl) (by kernel_rfl) (by kernel_rfl) (fun _ _ _ h => h) (Or.inl ⟨by rfl, ?hy3⟩) (by assumption) ?rest3
      case hy3 => (intro w hSw; (try dsimp only at hSw); go_simp; (first | done | with_reducible rfl))
      simp only [Act.put, List.setIfInBounds_toArray, List.set_cons_zero, List.set_cons_succ, List.getElem_toArray, List.getElem_cons_zero, List.getElem_cons_succ]
      refine wpAnyH_take (i := 3) (v := ?v4) rfl (by kernel_rfl) (by kernel_rfl) (by kernel_rfl) (fun _ _ _ h => h) (Or.inl ⟨by rfl, ?hy4⟩) (by assumption) ?rest4
      case hy4 => (intro w hSw; (try dsimp only at hSw); go_simp; (first | done | with_reducible rfl))
      simp only [Act.put, List.setIfInBounds_toArray, List.set_cons_zero, List.set_cons_succ, List.getElem_toArray, List.getElem_cons_zero, List.getElem_cons_succ]
      refine wpAnyH_take (i := 4) (v := ?v5) rfl (by kernel_rfl) (by kernel_rfl) (by kernel_rfl) (fun _ _ _ h => h) (Or.inl ⟨by rfl, ?hy5⟩) (by assumption) ?rest5
      case hy5 => (intro w hSw; (try dsimp only at hSw); go_simp; (first | done | with_reducible rfl))
      simp only [Act.put, List.setIfInBounds_toArray, List.set_cons_zero, List.set_cons_succ, List.getElem_toArray, List.getElem_cons_zero, List.getElem_cons_succ]
      refine wpAnyH_take (i := 5) (v := ?v6) rfl (by kernel_rfl) (by kernel_rfl) (by kernel_rfl) (fun _ _ _ h => h) (Or.inl ⟨by rfl, ?hy6⟩) (by assumption) ?rest6
      case hy6 => (intro w hSw; (try dsimp only at hSw); go_simp; (first | done | with_reducible rfl))
      simp only [Act.put, List.setIfInBounds_toArray, List.set_cons_zero, List.set_cons_succ, List.getElem_toArray, List.getElem_cons_zero, List.getElem_cons_succ]
      refine wpAnyH_take (i := 6) (v := ?v7) rfl (by kernel_rfl) (by kernel_rfl) (by kernel_rfl) (fun _ _ _ h => h) (Or.inl ⟨by rfl, ?hy7⟩) (by assumption) ?rest7
      case hy7 => (intro w hSw; (try dsimp only at hSw); go_simp; (first | done | with_reducible rfl))
      simp only [Act.put, List.setIfInBounds_toArray, List.set_cons_zero, List.set_cons_succ, List.getElem_toArray, List.getElem_cons_zero, List.getElem_cons_succ]
      refine wpAnyH_take (i := 7) (v := ?v8) rfl (by kernel_rfl) (by kernel_rfl) (by kernel_rfl) (fun _ _ _ h => h) (Or.inl ⟨by rfl, ?hy8⟩) (by assumption) ?rest8
      case hy8 => (intro w hSw; (try dsimp only at hSw); go_simp; (first | done | with_reducible rfl))
      simp only [Act.put, List.setIfInBounds_toArray, List.set_cons_zero, List.set_cons_succ, List.getElem_toArray, List.getElem_cons_zero, List.getElem_cons_succ]
      refine wpAnyH_ready (rs := [8]) (by kernel_rfl) (by simp) ?_
      refine AllReadyH.cons rfl (fun K hK => ?_) AllReadyH.nil
      simp only [List.getElem_toArray, List.getElem_cons_zero, List.getElem_cons_succ]
      go_simp
      go_at_call 14
      obtain ⟨h_0, h_1, h_2, h_3, h_B⟩ := hHeld
      refine (sameX_any _ _ _ _ (exAt es k).1 (exAt es k).2 hm0.1 hm0.2 _ ((HI.out.1.below (h_B.mono hNw)).grow (Nat.le_trans hNw h_B.size)) ((HI.out.2.1.below (h_B.mono hNw)).grow (Nat.le_trans hNw h_B.size)) ((HI.out.2.2.1.below (h_B.mono hNw)).grow (Nat.le_trans hNw h_B.size)) ((HI.out.2.2.2.below (h_B.mono hNw)).grow (Nat.le_trans hNw h_B.size))).mono ?_
      rintro e w_k1 ⟨rfl, k1⟩
      have hb1 := Lib.hid (below_step h_B k1)
      go_wp2_with fail
      refine hK.out _ _ ⟨cell_step k1 h_0, cell_step k1 h_1, cell_step k1 h_2, cell_step k1 h_3, below_step h_B k1⟩ (fun hHeld => ?_)
      clear hK K h_0 h_1 h_2 h_3 h_B
      try simp only [Act.put, List.setIfInBounds_toArray, List.set_cons_zero, List.set_cons_succ, List.getElem_toArray, List.getElem_cons_zero, List.getElem_cons_succ]
      refine wpAnyH_take (i := 9) (v := ?v9) rfl (by kernel_rfl) (by kernel_rfl) (by kernel_rfl) (fun _ _ _ h => h) (Or.inl ⟨by rfl, ?hy9⟩) (by assumption) ?rest9
      case hy9 => (intro w hSw; (try dsimp only at hSw); go_simp; (first | done | with_reducible rfl))
      simp only [Act.put, List.setIfInBounds_toArray, List.set_cons_zero, List.set_cons_succ, List.getElem_toArray, List.getElem_cons_zero, List.getElem_cons_succ]
      refine wpAnyH_done (by kernel_rfl) ?_ _
      obtain ⟨_, _, _, _, h_B⟩ := hHeld
      have B2 := Lib.hid (HB.out.trans (h_B.mono hNw))
      clear h_B hb1 HB HI
      go_wp2_with fail
      go_roundw
      case rel => exact ⟨k + 1, by omega, by go_num, B2⟩
      case measure => simp [intOf]; omega
    · have hke : k = es.length := by omega
      subst hke
      have i0 : ¬ (es.length : Int) < (es.length : Int) := by omega
      go_wp2_with fail
      go_ret
      exact ⟨rfl, by first | exact HB.out | (rw [hN]; exact HB.out)⟩
end Go.Proofs.YtcnabebcckbfkaaDoor
