/- Layer 11: within, between, Check and the reference's Check. -/
import Derived.Test.YtolmdhhbhohndaaShpB
namespace Go.Proofs.Ytolmdhhbhohndaa
open Go.RowKit
set_option linter.unusedVariables false
/-- the cells of a block -/
def CellsAt (B : Nat) (w : World) (cs : List Value) : Prop := B < w.heap.size ∧ ∀ j v, cs[j]? = some v → w.cell? ⟨B, j, none⟩ = some v
theorem CellsAt.new (w : World) (cs : Array Value) (e : TypeId) : CellsAt w.heap.size (w.alloc (.cells cs e)) cs.toList :=
  ⟨by simp, fun j v h => (cell_new w cs e j).trans (by simpa using h)⟩
theorem CellsAt.later {B : Nat} {w w' : World} {cs : List Value} (h : CellsAt B w cs) (hb : Below w.heap.size w w') : CellsAt B w' cs :=
  ⟨Nat.lt_of_lt_of_le h.1 hb.size, fun j v e => (hb.cell (p := ⟨B, j, none⟩) h.1).trans (h.2 j v e)⟩
def inB (least n : Int) : Bool := decide (least ≤ n) && decide (n ≤ 1048576)
def withinB (least : Int) (zs : List Int) : Bool := zs.all (inB least)
theorem within_bad {least : Int} {zs : List Int} {k : Nat} (hk : k < zs.length) (h : inB least (zs[k]?.getD 0) = false) : withinB least zs = false := by
  rw [Bool.eq_false_iff]
  intro ha
  have := List.all_eq_true.1 ha zs[k] (List.getElem_mem hk)
  rw [List.getElem?_eq_getElem hk, Option.getD_some, this] at h
  cases h
theorem within_ok {least : Int} {zs : List Int} (h : ∀ j, j < zs.length → inB least (zs[j]?.getD 0) = true) : withinB least zs = true := by
  unfold withinB
  rw [List.all_eq_true]
  intro x hx
  obtain ⟨j, hj, rfl⟩ := List.getElem_of_mem hx
  have := h j hj
  rwa [List.getElem?_eq_getElem hj, Option.getD_some] at this
set_option maxHeartbeats 1000000 in
theorem within_any (least : Int) (v : Value) (zs : List Int) (hm : zs.length ≤ 1048576) (n₀ : Nat) (w : World) (hv : IntsAt .i64 n₀ w v zs) :
    Calls Try.prog 17 #[.int .i64 least, v] w fun e w' => e = .returned (.bool (withinB least zs)) ∧ w = w' := by
  obtain ⟨a, c, rfl⟩ := ints_value hv
  have HV := Lib.hid hv
  clear hv
  go_enter Try.func17, Try.ntmps17
  go_wp2_with fail
  go_loopw [6, 9] (fun _ iv wr => ∃ k : Nat, k ≤ zs.length ∧ iv = .int .i64 k ∧ Hid (∀ j, j < k → inB least (zs[j]?.getD 0) = true) ∧ w = wr) (fun _ iv _ => zs.length - (intOf iv).toNat)
  case atStart => exact ⟨0, Nat.zero_le _, rfl, Lib.hid (fun j hj => absurd hj (Nat.not_lt_zero j)), rfl⟩
  case round =>
    obtain ⟨k, hk, rfl, HG, rfl⟩ := hrel
    by_cases hlt : k < zs.length
    · rcases HV.out.form with ⟨_, e0⟩ | ⟨b, off, cap, e0, hcap, hb, hcs⟩
      · rw [e0] at hlt; cases hlt
      cases e0
      have ck := hcs k hlt
      have hbw : b < w.heap.size := World.block_lt_of_cell? _ _ ck
      clear hcs
      by_cases l1 : zs[k]?.getD 0 < least
      · have d1 : decide (zs[k]?.getD 0 < least) = true := by simpa using l1
        have H := Lib.hid (within_bad (least := least) hlt (by unfold inB; rw [show decide (least ≤ zs[k]?.getD 0) = false by simp; omega]; rfl))
        generalize zs[k]?.getD 0 = x at *
        go_wp2_with fail
        go_ret
        exact ⟨by rw [H.out]; rfl, rfl⟩
      · have d1 : decide (zs[k]?.getD 0 < least) = false := by simpa using l1
        by_cases l2 : 1048576 < zs[k]?.getD 0
        · have d2 : decide (1048576 < zs[k]?.getD 0) = true := by simpa using l2
          have H := Lib.hid (within_bad (least := least) hlt (by unfold inB; rw [show decide (zs[k]?.getD 0 ≤ 1048576) = false by simp; omega, Bool.and_false]))
          generalize zs[k]?.getD 0 = x at *
          go_wp2_with fail
          go_ret
          exact ⟨by rw [H.out]; rfl, rfl⟩
        · have d2 : decide (1048576 < zs[k]?.getD 0) = false := by simpa using l2
          have HG2 : Hid (∀ j, j < k + 1 → inB least (zs[j]?.getD 0) = true) := Lib.hid (fun j hj => by
            rcases Nat.lt_succ_iff_lt_or_eq.1 hj with h1 | rfl
            · exact HG.out j h1
            · unfold inB; rw [show decide (least ≤ zs[j]?.getD 0) = true by simp; omega, show decide (zs[j]?.getD 0 ≤ 1048576) = true by simp; omega]; rfl)
          generalize zs[k]?.getD 0 = x at *
          go_wp2_with fail
          go_roundw
          case rel => exact ⟨k + 1, by omega, by go_num, HG2, trivial⟩
          case measure => simp [intOf]; omega
    · have hke : k = zs.length := by omega
      subst hke
      have H := Lib.hid (within_ok HG.out)
      go_wp2_with fail
      go_ret
      exact ⟨by rw [H.out]; rfl, rfl⟩
def betB (x lo hi : Int) : Bool := decide (lo ≤ x) && decide (x ≤ hi)
theorem between_any (x lo hi : Int) (w : World) : Calls Try.prog 18 #[.int .i64 x, .int .i64 lo, .int .i64 hi] w fun e w' => e = .returned (.bool (betB x lo hi)) ∧ w = w' := by
  by_cases h1 : lo ≤ x
  · have g1 : decide (lo ≤ x) = true := by simpa using h1
    have H := Lib.hid (show betB x lo hi = decide (x ≤ hi) by unfold betB; rw [g1]; rfl)
    go_enter Try.func18, Try.ntmps18
    go_wp2_with fail
    go_ret
    exact ⟨by rw [H.out]; rfl, rfl⟩
  · have g1 : decide (lo ≤ x) = false := by simpa using h1
    have H := Lib.hid (show betB x lo hi = false by unfold betB; rw [g1]; rfl)
    go_enter Try.func18, Try.ntmps18
    go_wp2_with fail
    go_ret
    exact ⟨by rw [H.out]; rfl, rfl⟩
/-- the code of a configuration -/
def codeC4 (wk ba mi st bu ch wi ca : Int) : Int := if withinB 1 [mi, bu, ch, wi, ca] = false ∨ withinB 0 [st] = false then 2 else if withinB wk [ba] = false then 7 else 0
def codeC3 (ss : List Int) (wk ba mi st bu ch wi ca : Int) : Int := if codeH ss ≠ 0 then codeH ss else codeC4 wk ba mi st bu ch wi ca
def codeC2 (ss : List Int) (sh wk ba mi st bu ch wi ca : Int) : Int := if sh < 1 ∨ 62 < sh then 9 else codeC3 ss wk ba mi st bu ch wi ca
def codeC (ss : List Int) (sh wk ba mi st bu ch wi ca : Int) : Int := if wk < 1 ∨ 64 < wk then 6 else codeC2 ss sh wk ba mi st bu ch wi ca
set_option maxHeartbeats 4000000 in
theorem checkC_any (v : Value) (ss : List Int) (hm : ss.length ≤ maxLen) (sh ra mo wk ba mi st bu ch wi ca : Int) (w : World) (hv : IntsW .i64 w.heap.size w v ss) :
    Calls Try.prog 7 #[.agg #[v, .int .i64 sh, .int .i64 ra, .int .i64 mo, .int .i64 wk, .int .i64 ba, .int .i64 mi, .int .i64 st, .int .i64 bu, .int .i64 ch, .int .i64 wi, .int .i64 ca]] w fun e w' => e = .returned (.int .i64 (codeC ss sh wk ba mi st bu ch wi ca)) ∧ Below w.heap.size w w' := by
  have AL := (Below.refl w.heap.size w).alloc (Nat.le_refl _) (.cells #[v, .int .i64 sh, .int .i64 ra, .int .i64 mo, .int .i64 wk, .int .i64 ba, .int .i64 mi, .int .i64 st, .int .i64 bu, .int .i64 ch, .int .i64 wi, .int .i64 ca] 24)
  have HN := Lib.hid (shapeNew_any v ss hm _ (hv.later AL))
  have C0 := Lib.hid (CellsAt.new w #[v, .int .i64 sh, .int .i64 ra, .int .i64 mo, .int .i64 wk, .int .i64 ba, .int .i64 mi, .int .i64 st, .int .i64 bu, .int .i64 ch, .int .i64 wi, .int .i64 ca] 24)
  obtain ⟨a, c, rfl⟩ := hv.value
  have A0 := Lib.hid AL
  clear hv AL
  by_cases h1 : wk < 1
  · have g1 : decide (wk < 1) = true := by simpa using h1
    have H := Lib.hid (show codeC ss sh wk ba mi st bu ch wi ca = 6 from if_pos (.inl h1))
    go_enter Try.func7, Try.ntmps7
    go_wp2_with fail
    go_ret
    exact ⟨by rw [H.out]; rfl, A0.out⟩
  · have g1 : decide (wk < 1) = false := by simpa using h1
    by_cases h2 : 64 < wk
    · have g2 : decide (64 < wk) = true := by simpa using h2
      have H := Lib.hid (show codeC ss sh wk ba mi st bu ch wi ca = 6 from if_pos (.inr h2))
      go_enter Try.func7, Try.ntmps7
      go_wp2_with fail
      go_ret
      exact ⟨by rw [H.out]; rfl, A0.out⟩
    · have g2 : decide (64 < wk) = false := by simpa using h2
      have e1 : codeC ss sh wk ba mi st bu ch wi ca = codeC2 ss sh wk ba mi st bu ch wi ca := if_neg (show ¬ (wk < 1 ∨ 64 < wk) by omega)
      by_cases h3 : sh < 1
      · have g3 : decide (sh < 1) = true := by simpa using h3
        have H := Lib.hid (show codeC ss sh wk ba mi st bu ch wi ca = 9 by rw [e1]; exact if_pos (.inl h3))
        clear e1
        go_enter Try.func7, Try.ntmps7
        go_wp2_with fail
        go_ret
        exact ⟨by rw [H.out]; rfl, A0.out⟩
      · have g3 : decide (sh < 1) = false := by simpa using h3
        by_cases h4 : 62 < sh
        · have g4 : decide (62 < sh) = true := by simpa using h4
          have H := Lib.hid (show codeC ss sh wk ba mi st bu ch wi ca = 9 by rw [e1]; exact if_pos (.inr h4))
          clear e1
          go_enter Try.func7, Try.ntmps7
          go_wp2_with fail
          go_ret
          exact ⟨by rw [H.out]; rfl, A0.out⟩
        · have g4 : decide (62 < sh) = false := by simpa using h4
          have e1 : codeC ss sh wk ba mi st bu ch wi ca = codeC3 ss wk ba mi st bu ch wi ca := e1.trans (if_neg (show ¬ (sh < 1 ∨ 62 < sh) by omega))
          have E1 := Lib.hid e1
          clear e1
          go_enter Try.func7, Try.ntmps7
          go_wp2_with fail
          refine HN.out.mono ?_
          intro e w1 hN
          rcases hN with ⟨hz, b, rfl, -, b1⟩ | ⟨hz, rfl, b1⟩
          · have B1 := Lib.hid (below_step A0.out b1)
            have C1 := C0.out.later b1
            have c4 := C1.2 4 _ rfl
            have c5 := C1.2 5 _ rfl
            have c6 := C1.2 6 _ rfl
            have c7 := C1.2 7 _ rfl
            have c8 := C1.2 8 _ rfl
            have c9 := C1.2 9 _ rfl
            have c10 := C1.2 10 _ rfl
            have c11 := C1.2 11 _ rfl
            have hwb : w.heap.size < w1.heap.size := C1.1
            have HC1 := Lib.hid C1
            have EZ : codeC ss sh wk ba mi st bu ch wi ca = codeC4 wk ba mi st bu ch wi ca := E1.out.trans (if_neg (show ¬ (codeH ss ≠ 0) from fun h => h hz))
            have HEZ := Lib.hid EZ
            have al5 := (Below.refl w1.heap.size w1).alloc (Nat.le_refl _) (.cells #[.int .i64 mi, .int .i64 bu, .int .i64 ch, .int .i64 wi, .int .i64 ca] 3)
            have I5 := Lib.hid (IntsAt.fresh (q := .i64) (w := w1) (e := 3) (zs := [mi, bu, ch, wi, ca]) (cs := #[.int .i64 mi, .int .i64 bu, .int .i64 ch, .int .i64 wi, .int .i64 ca]) rfl)
            have B5 := Lib.hid (below_step B1.out al5)
            have W5 := Lib.hid (within_any 1 _ [mi, bu, ch, wi, ca] (by simp) _ _ I5.out)
            have C5 := Lib.hid (HC1.out.later al5)
            clear b1 C1 hz EZ al5 E1 HN
            go_wp2_with fail
            refine W5.out.mono ?_
            rintro e w5 ⟨rfl, rfl⟩
            clear c4 c5 c6 c7 c8 c9 c10 c11
            generalize hW : w1.alloc (.cells #[.int .i64 mi, .int .i64 bu, .int .i64 ch, .int .i64 wi, .int .i64 ca] 3) = W at *
            clear hW
            cases hb5 : withinB 1 [mi, bu, ch, wi, ca]
            · have H := Lib.hid (show codeC ss sh wk ba mi st bu ch wi ca = 2 by rw [HEZ.out]; exact if_pos (.inl hb5))
              clear hb5
              go_wp2_with fail
              go_ret
              exact ⟨by rw [H.out]; rfl, B5.out⟩
            · have c7 := C5.out.2 7 _ rfl
              have hw5 : w.heap.size < W.heap.size := C5.out.1
              have al6 := (Below.refl W.heap.size W).alloc (Nat.le_refl _) (.cells #[.int .i64 st] 3)
              have I6 := Lib.hid (IntsAt.fresh (q := .i64) (w := W) (e := 3) (zs := [st]) (cs := #[.int .i64 st]) rfl)
              have B6 := Lib.hid (below_step B5.out al6)
              have W6 := Lib.hid (within_any 0 _ [st] (by simp) _ _ I6.out)
              have C6 := Lib.hid (C5.out.later al6)
              have HB5 := Lib.hid hb5
              clear al6 hb5 W5 I5
              go_wp2_with fail
              refine W6.out.mono ?_
              rintro e w6 ⟨rfl, rfl⟩
              clear c7
              generalize hW : W.alloc (.cells #[.int .i64 st] 3) = W2 at *
              clear hW
              cases hb6 : withinB 0 [st]
              · have H := Lib.hid (show codeC ss sh wk ba mi st bu ch wi ca = 2 by rw [HEZ.out]; exact if_pos (.inr hb6))
                clear hb6
                go_wp2_with fail
                go_ret
                exact ⟨by rw [H.out]; rfl, B6.out⟩
              · have c4 := C6.out.2 4 _ rfl
                have c5 := C6.out.2 5 _ rfl
                have hw6 : w.heap.size < W2.heap.size := C6.out.1
                have al7 := (Below.refl W2.heap.size W2).alloc (Nat.le_refl _) (.cells #[.int .i64 ba] 3)
                have I7 := Lib.hid (IntsAt.fresh (q := .i64) (w := W2) (e := 3) (zs := [ba]) (cs := #[.int .i64 ba]) rfl)
                have B7 := Lib.hid (below_step B6.out al7)
                have W7 := Lib.hid (within_any wk _ [ba] (by simp) _ _ I7.out)
                have EZ : codeC ss sh wk ba mi st bu ch wi ca = if withinB wk [ba] = false then 7 else 0 := HEZ.out.trans (if_neg (show ¬ (withinB 1 [mi, bu, ch, wi, ca] = false ∨ withinB 0 [st] = false) by rw [HB5.out, hb6]; simp))
                have HEY := Lib.hid EZ
                clear al7 hb6 W6 I6 EZ HEZ
                go_wp2_with fail
                refine W7.out.mono ?_
                rintro e w7 ⟨rfl, rfl⟩
                clear c4 c5
                cases hb7 : withinB wk [ba]
                · have H := Lib.hid (show codeC ss sh wk ba mi st bu ch wi ca = 7 by rw [HEY.out, if_pos hb7])
                  clear hb7
                  go_wp2_with fail
                  go_ret
                  exact ⟨by rw [H.out]; rfl, B7.out⟩
                · have H := Lib.hid (show codeC ss sh wk ba mi st bu ch wi ca = 0 by rw [HEY.out, if_neg (by rw [hb7]; simp)])
                  clear hb7
                  go_wp2_with fail
                  go_ret
                  exact ⟨by rw [H.out]; rfl, B7.out⟩
          · have g5 : (codeH ss != 0) = true := by simpa using hz
            have H := Lib.hid (show codeC ss sh wk ba mi st bu ch wi ca = codeH ss by rw [E1.out]; exact if_pos hz)
            have B1 := Lib.hid (below_step A0.out b1)
            clear b1 hz E1
            generalize codeH ss = cd at *
            go_wp2_with fail
            go_ret
            exact ⟨by rw [H.out]; rfl, B1.out⟩
end Go.Proofs.Ytolmdhhbhohndaa
