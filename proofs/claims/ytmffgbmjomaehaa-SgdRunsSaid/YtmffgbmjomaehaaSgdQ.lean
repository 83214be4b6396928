/- States compared and given back; the law's own small case. -/
import Derived.Test.YtmffgbmjomaehaaSgdN
namespace Go.Proofs.Ytmffgbmjomaehaa
open Go.RowKit
set_option linter.unusedVariables false
def sameS (z1 y1 z2 y2 : List Int) : Bool := sameL z1 z2 && sameL y1 y2
set_option maxHeartbeats 1000000 in
theorem refSame13_any (p1 m1 p2 m2 : Value) (z1 y1 z2 y2 : List Int) (h1 : z1.length ≤ 140737488351232) (h2 : y1.length ≤ 140737488351232) (h3 : z2.length ≤ 140737488351232) (h4 : y2.length ≤ 140737488351232) (w : World) (i1 : IntsW .i64 w.heap.size w p1 z1) (i2 : IntsW .i64 w.heap.size w m1 y1) (i3 : IntsW .i64 w.heap.size w p2 z2) (i4 : IntsW .i64 w.heap.size w m2 y2) :
    Calls Try.prog 14 #[.agg #[p1, m1], .agg #[p2, m2]] w fun e w' => e = .returned (.bool (sameS z1 y1 z2 y2)) ∧ Below w.heap.size w w' := by
  have HP := Lib.hid (fun W (h : Below w.heap.size w W) => refSame_w p1 p2 z1 z2 h1 h3 W (i1.later h) (i3.later h))
  have HM := Lib.hid (fun W (h : Below w.heap.size w W) => refSame_w m1 m2 y1 y2 h2 h4 W (i2.later h) (i4.later h))
  obtain ⟨a1, c1, rfl⟩ := i1.value
  obtain ⟨a2, c2, rfl⟩ := i2.value
  obtain ⟨a3, c3, rfl⟩ := i3.value
  obtain ⟨a4, c4, rfl⟩ := i4.value
  have al := ((Below.refl w.heap.size w).alloc (Nat.le_refl _) (.cells #[.slice a1 z1.length c1, .slice a2 y1.length c2] 26)).alloc (by simp) (.cells #[.slice a3 z2.length c3, .slice a4 y2.length c4] 26)
  clear i1 i2 i3 i4
  unfold sameS
  generalize sameL z1 z2 = b1 at *
  generalize sameL y1 y2 = b2 at *
  cases b1
  · go_enter Try.func14, Try.ntmps14
    go_wp2_with fail
    refine (HP.out _ al).mono ?_
    rintro e w1 ⟨rfl, k1⟩
    have k2 := below_step al k1
    go_wp2_with fail
    go_ret
    exact ⟨rfl, k2⟩
  · go_enter Try.func14, Try.ntmps14
    go_wp2_with fail
    refine (HP.out _ al).mono ?_
    rintro e w1 ⟨rfl, k1⟩
    have k2 := below_step al k1
    have q01 := cells_two w (.slice a1 z1.length c1) (.slice a2 y1.length c2) 26
    have q23 := cells_two (w.alloc (.cells #[.slice a1 z1.length c1, .slice a2 y1.length c2] 26)) (.slice a3 z2.length c3) (.slice a4 y2.length c4) 26
    have c0 := cell_step k1 (cell_step ((Below.refl _ _).alloc (Nat.le_refl _) (.cells #[.slice a3 z2.length c3, .slice a4 y2.length c4] 26)) q01.2)
    have c2' := cell_step k1 q23.2
    rw [World.size_alloc] at c2'
    clear q01 q23
    go_wp2_with fail
    refine (HM.out _ k2).mono ?_
    rintro e w2 ⟨rfl, k3⟩
    have k4 := below_step k2 k3
    go_wp2_with fail
    go_ret
    exact ⟨by simp, k4⟩
theorem back_any (a1 a2 : Option Addr) (n1 n2 c1 c2 : Nat) (w : World) :
    Calls Try.prog 15 #[.agg #[.slice a1 n1 c1, .slice a2 n2 c2]] w fun e w' => e = .returned (.agg #[.slice a1 n1 c1, .slice a2 n2 c2]) ∧ Below w.heap.size w w' := by
  have HB := Lib.hid (((Below.refl w.heap.size w).alloc (Nat.le_refl _) (.cells #[.slice a1 n1 c1, .slice a2 n2 c2] 31)).alloc (by simp) (.cells #[.slice a1 n1 c1, .slice a2 n2 c2] 26))
  go_enter Try.func15, Try.ntmps15
  go_wp2
  (try simp only [Exit.inBlock, Exit.then])
  refine bodyPost_ret (v := .agg #[.slice a1 n1 c1, .slice a2 n2 c2]) (by simp [results, Try.results15, go_sem]) rfl ?_
  exact ⟨rfl, HB.out⟩
theorem next_alive : nextM [4] [2] 1 1 = [4] ∧ nextP [10] [4] 1 1 = [8] := by unfold nextM nextP addL subL scaleL subW mulq wrap64; decide
set_option maxHeartbeats 1000000 in
theorem alive_any (w : World) :
    Calls Try.prog 9 #[] w fun e w' => e = .returned (.bool true) ∧ Below w.heap.size w w' := by
  have al1 := (Below.refl w.heap.size w).alloc (Nat.le_refl _) (.cells #[.int .i64 10] 2)
  have al2 := al1.alloc al1.size (.cells #[.int .i64 4] 2)
  have al3 := al2.alloc al2.size (.cells #[.int .i64 2] 2)
  have i1 : IntsAt .i64 _ _ (.slice (some ⟨w.heap.size, 0, none⟩) 1 1) [10] := IntsAt.fresh (w := w) (e := 2) rfl
  have i2 : IntsAt .i64 _ _ (.slice (some ⟨(w.alloc (.cells #[.int .i64 10] 2)).heap.size, 0, none⟩) 1 1) [4] := IntsAt.fresh (w := w.alloc (.cells #[.int .i64 10] 2)) (e := 2) rfl
  have i3 : IntsAt .i64 _ _ (.slice (some ⟨((w.alloc (.cells #[.int .i64 10] 2)).alloc (.cells #[.int .i64 4] 2)).heap.size, 0, none⟩) 1 1) [2] := IntsAt.fresh (w := (w.alloc (.cells #[.int .i64 10] 2)).alloc (.cells #[.int .i64 4] 2)) (e := 2) rfl
  have j2 := i2.later ((Below.refl _ _).alloc (Nat.le_refl _) (.cells #[.int .i64 2] 2))
  have j1 := (i1.later ((Below.refl _ _).alloc (Nat.le_refl _) (.cells #[.int .i64 4] 2))).later ((Below.refl _ _).alloc (Nat.le_refl _) (.cells #[.int .i64 2] 2))
  have HX := Lib.hid (next_yes 1 1 1 (by unfold Word; omega) (by unfold Word; omega) _ _ _ [10] [4] [2] (by simp [Word]) (by simp [Word]) (by decide) (by decide) (by decide) (by decide) _ (.inr j1) (.inr j2) j2 (.inr i3))
  simp only [World.size_alloc] at HX
  clear i1 i2 i3 j1 j2
  go_enter Try.func9, Try.ntmps9
  go_wp2_with fail
  refine HX.out.mono ?_
  rintro e w2 h2
  unfold NextIs at h2
  rw [if_pos (by decide), next_alive.1, next_alive.2] at h2
  obtain ⟨v, rfl, ⟨vp, vm, rfl, op, om⟩, b2⟩ := h2
  obtain ⟨g, cp, rfl, _, _⟩ := own_some op (by decide)
  obtain ⟨gm, cm, rfl, _, _⟩ := own_some om (by decide)
  have c0 := op.cellAt 0 (by decide)
  have c1 := om.cellAt 0 (by decide)
  simp only [List.map_cons, List.getElem?_cons_zero] at c0 c1
  have k2 := Lib.hid (al3.trans (b2.mono al3.size))
  clear op om al1 al2 al3 b2
  go_wp2_with fail
  go_ret
  exact ⟨by first | rfl | (simp; done), by first | exact k2.out | exact below_step k2.out ((Below.refl _ _).alloc (Nat.le_refl _) _)⟩
end Go.Proofs.Ytmffgbmjomaehaa
