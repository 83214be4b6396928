/- Layer 16: the reference's Low, Turn, Of; a mark as a complex number. -/
import Derived.Test.YtplobfiopbncpaaDoorMrkC
namespace Go.Proofs.YtplobfiopbncpaaDoor
open Go.RowKit
set_option linter.unusedVariables false
/-- two cells -/
def Two (w : World) (b : Nat) (t : TypeId) (x0 x1 : Value) : Prop := w.heap[b]? = some (.cells #[x0, x1] t (0, 0))
theorem Two.new (w : World) (t : TypeId) (x0 x1 : Value) : Two (w.alloc (.cells #[x0, x1] t)) w.heap.size t x0 x1 := (MapKept.heap_alloc _ _).1
theorem Two.lt {w : World} {b : Nat} {t : TypeId} {x0 x1 : Value} (h : Two w b t x0 x1) : b < w.heap.size := (Array.getElem?_eq_some_iff.1 h).1
theorem Two.later {w w' : World} {b : Nat} {t : TypeId} {x0 x1 : Value} (h : Two w b t x0 x1) (hb : Below w.heap.size w w') : Two w' b t x0 x1 := (hb.block b h.lt).trans h
theorem Two.kept {w w' : World} {b k : Nat} {t : TypeId} {x0 x1 : Value} (h : Two w b t x0 x1) (hg : w.grownBy w' (some k)) (hne : b ≠ k) : Two w' b t x0 x1 := (hg.block b h.lt (fun e => hne (Option.some.inj e))).trans h
theorem Two.cells {w : World} {b : Nat} {t : TypeId} {x0 x1 : Value} (h : Two w b t x0 x1) : w.cell? ⟨b, 0, none⟩ = some x0 ∧ w.cell? ⟨b, 1, none⟩ = some x1 := by
  have e : w.heap[b]? = _ := h
  exact ⟨by simp [World.cell?, e], by simp [World.cell?, e]⟩
theorem Two.frozen {w : World} {b : Nat} {t : TypeId} {x0 x1 : Value} (h : Two w b t x0 x1) (j : Nat) : w.frozen? ⟨b, j, none⟩ = false := by
  simp [World.frozen?, show w.heap[b]? = _ from h]
theorem Two.set_heap {w : World} {b : Nat} {t : TypeId} {x0 x1 : Value} (h : Two w b t x0 x1) (j : Nat) (v : Value) : (w.setCell ⟨b, j, none⟩ v).heap[b]? = some (.cells (#[x0, x1].setIfInBounds j v) t (0, 0)) := by
  obtain ⟨hlt, hk⟩ := Array.getElem?_eq_some_iff.1 h
  show (w.heap.modify b _)[b]? = _
  rw [Array.getElem?_eq_getElem (by rw [Array.size_modify]; exact hlt), Array.getElem_modify_self, hk]
  rfl
theorem Two.store {w : World} {b : Nat} {t : TypeId} {x0 x1 : Value} (h : Two w b t x0 x1) (y0 y1 : Value) : Two ((w.setCell ⟨b, 0, none⟩ y0).setCell ⟨b, 1, none⟩ y1) b t y0 y1 := by
  have s0 : Two _ b t y0 x1 := h.set_heap 0 y0
  exact s0.set_heap 1 y1
theorem tmod_neg (n c : Int) (h : n < 0) : n.tmod c = -((-n) % c) := by
  have e := Int.neg_tmod (-n) c
  rw [Int.neg_neg] at e
  rw [e, Int.tmod_eq_emod_of_nonneg (by omega)]
theorem refLow_any (x : Int) (w : World) : Calls Tryd.prog 14 #[.int .i64 x] w fun e w' => e = .returned (.int .i64 (lowI x)) ∧ Below w.heap.size w w' := by
  have ht : (x.tmod 65536 < 0 ∧ -65536 < x.tmod 65536 ∧ x.tmod 65536 + 65536 = x % 65536) ∨ (0 ≤ x.tmod 65536 ∧ x.tmod 65536 = x % 65536) := by
    rcases (show 0 ≤ x ∨ x < 0 by omega) with h | h
    · rw [Int.tmod_eq_emod_of_nonneg h]; omega
    · rw [tmod_neg x _ h]; omega
  have lo : lowI x = if 32767 < x % 65536 then x % 65536 - 65536 else x % 65536 := by unfold lowI; split <;> omega
  rw [lo]
  have hm : 0 ≤ x % 65536 ∧ x % 65536 < 65536 := by omega
  clear lo
  generalize htv : x.tmod 65536 = t at *
  generalize x % 65536 = m at *
  rcases ht with ⟨h1, h2, h3⟩ | ⟨h1, h2⟩
  · have g1 : decide (t < 0) = true := by simpa using h1
    have w1 : IntKind.i64.wrap (t + 65536) = m := by rw [h3]; exact IntWalk.i64_in _ (by omega)
    by_cases hc : 32767 < m
    · have g2 : decide (32767 < m) = true := by simpa using hc
      rw [if_pos hc]
      have w2 : IntKind.i64.wrap (m - 65536) = m - 65536 := IntWalk.i64_in _ (by omega)
      go_enter Tryd.func14, Tryd.ntmps14
      go_wp2_with fail
      go_ret
      exact ⟨by first | rfl | simp_all, Below.refl _ _⟩
    · have g2 : decide (32767 < m) = false := by simpa using hc
      rw [if_neg hc]
      go_enter Tryd.func14, Tryd.ntmps14
      go_wp2_with fail
      go_ret
      exact ⟨by first | rfl | simp_all, Below.refl _ _⟩
  · have g1 : decide (t < 0) = false := by simp; omega
    subst h2
    by_cases hc : 32767 < t
    · have g2 : decide (32767 < t) = true := by simpa using hc
      rw [if_pos hc]
      have w2 : IntKind.i64.wrap (t - 65536) = t - 65536 := IntWalk.i64_in _ (by omega)
      go_enter Tryd.func14, Tryd.ntmps14
      go_wp2_with fail
      go_ret
      exact ⟨by first | rfl | simp_all, Below.refl _ _⟩
    · have g2 : decide (32767 < t) = false := by simpa using hc
      rw [if_neg hc]
      go_enter Tryd.func14, Tryd.ntmps14
      go_wp2_with fail
      go_ret
      exact ⟨by first | rfl | simp_all, Below.refl _ _⟩
/-- quarter turns, one by one -/
def rotL (x y : Int) : Nat → Int × Int
  | 0 => (x, y)
  | j + 1 => (-(rotL x y j).2, (rotL x y j).1)
theorem rotL_eq (x y n : Int) : rotL x y (n % 4).toNat = (trnR x y n, trnI x y n) := by
  unfold trnR trnI powR powI
  rcases (show n % 4 = 0 ∨ n % 4 = 1 ∨ n % 4 = 2 ∨ n % 4 = 3 by omega) with h | h | h | h <;> simp [h, rotL]
theorem rotL_le (x y : Int) (M : Nat) (hx : x.natAbs ≤ M) (hy : y.natAbs ≤ M) : ∀ j, (rotL x y j).1.natAbs ≤ M ∧ (rotL x y j).2.natAbs ≤ M
  | 0 => ⟨hx, hy⟩
  | j + 1 => by
    obtain ⟨h1, h2⟩ := rotL_le x y M hx hy j
    unfold rotL
    exact ⟨by rw [Int.natAbs_neg]; exact h2, h1⟩
set_option maxHeartbeats 2000000 in
theorem refTurn_any (x y n : Int) (hx : x.natAbs ≤ 1125899906842624) (hy : y.natAbs ≤ 1125899906842624) (w : World) :
    Calls Tryd.prog 17 #[.agg #[.int .i64 x, .int .i64 y], .int .i64 n] w fun e w' => e = .returned (.agg #[.int .i64 (trnR x y n), .int .i64 (trnI x y n)]) ∧ Below w.heap.size w w' := by
  have hlast := rotL_eq x y n
  have ht : (n.tmod 4 < 0 ∧ -4 < n.tmod 4 ∧ n.tmod 4 + 4 = n % 4) ∨ (0 ≤ n.tmod 4 ∧ n.tmod 4 = n % 4) := by
    rcases (show 0 ≤ n ∨ n < 0 by omega) with h | h
    · rw [Int.tmod_eq_emod_of_nonneg h]; omega
    · rw [tmod_neg n _ h]; omega
  obtain ⟨K, hK, hK4⟩ : ∃ K : Nat, n % 4 = (K : Int) ∧ K < 4 := ⟨(n % 4).toNat, by omega, by omega⟩
  rw [hK] at ht hlast
  rw [Int.toNat_natCast] at hlast
  generalize htv : n.tmod 4 = t at *
  have T0 := Two.new w 28 (.int .i64 x) (.int .i64 y)
  have T0' := T0
  have T1 := Two.new (w.alloc (.cells #[.int .i64 x, .int .i64 y] 28)) 28 (.int .i64 0) (.int .i64 0)
  rw [World.size_alloc] at T1
  have bA := (Below.refl w.heap.size w).alloc (Nat.le_refl _) (.cells #[.int .i64 x, .int .i64 y] 28)
  have bA2 := (Below.refl (w.alloc (.cells #[.int .i64 x, .int .i64 y] 28)).heap.size (w.alloc (.cells #[.int .i64 x, .int .i64 y] 28))).alloc (Nat.le_refl _) (.cells #[.int .i64 0, .int .i64 0] 28)
  have X0 := Lib.hid (And.intro (show Two _ w.heap.size 28 (.int .i64 (rotL x y 0).1) (.int .i64 (rotL x y 0).2) from T0.later bA2) (And.intro T1 (below_step bA bA2)))
  clear T0 T0' T1 bA bA2
  have L4 : (K : Int) ≤ 4 := by omega
  go_enter Tryd.func17, Tryd.ntmps17
  go_upto_region 1 with fail
  generalize (w.alloc (.cells #[.int .i64 x, .int .i64 y] 28)).alloc (.cells #[.int .i64 0, .int .i64 0] 28) = W1 at *
  generalize hN : w.heap.size = N at *
  rcases ht with ⟨h1, h2, h3⟩ | ⟨h1, h2⟩
  · have g1 : decide (t < 0) = true := by simpa using h1
    have w1 : IntKind.i64.wrap (t + 4) = (K : Int) := by rw [h3]; exact IntWalk.i64_in _ (by omega)
    go_wp2_with fail
    go_loopw [6] (fun iv wr => ∃ j : Nat, j ≤ K ∧ iv = .int .i64 j ∧ Hid (Two wr N 28 (.int .i64 (rotL x y j).1) (.int .i64 (rotL x y j).2) ∧ Two wr (N + 1) 28 (.int .i64 0) (.int .i64 0) ∧ Below N w wr)) (fun iv _ => K - (intOf iv).toNat)
    case atStart => exact ⟨0, Nat.zero_le _, rfl, X0⟩
    case round =>
      clear X0
      obtain ⟨j, hj, rfl, HX⟩ := hrel
      obtain ⟨r1, r2⟩ := rotL_le x y _ hx hy j
      obtain ⟨c0, c1⟩ := HX.out.1.cells
      have f0 := HX.out.1.frozen 0
      have f1 := HX.out.1.frozen 1
      by_cases hlt : j < K
      · have SS := HX.out.1.store (.int .i64 (-(rotL x y j).2)) (.int .i64 (rotL x y j).1)
        have G := grown_trans (grown_set wr N 0 (.int .i64 (-(rotL x y j).2))) (grown_set _ N 1 (.int .i64 (rotL x y j).1))
        have S1 := HX.out.2.1.kept G (by omega)
        have BB := below_set (o := 1) (x := .int .i64 (rotL x y j).1) (below_set (o := 0) (x := .int .i64 (-(rotL x y j).2)) HX.out.2.2 (Nat.le_refl _)) (Nat.le_refl _)
        have X5 := Lib.hid (And.intro (show Two _ N 28 (.int .i64 (rotL x y (j + 1)).1) (.int .i64 (rotL x y (j + 1)).2) from SS) (And.intro S1 BB))
        clear SS G S1 BB HX
        generalize (rotL x y j).1 = p at *
        generalize (rotL x y j).2 = q at *
        have i0 : (j : Int) < (K : Int) := by omega
        have wq : IntKind.i64.wrap (-q) = -q := IntWalk.i64_in _ (by omega)
        go_wp2_with fail
        generalize (wr.setCell ⟨N, 0, none⟩ (.int .i64 (-q))).setCell ⟨N, 1, none⟩ (.int .i64 p) = W5 at *
        go_wp2_with fail
        go_roundw
        case rel => exact ⟨j + 1, by omega, by go_num, X5⟩
        case measure => simp [intOf]; omega
      · have hjK : j = K := by omega
        subst hjK
        have i0 : ¬ (j : Int) < (j : Int) := by omega
        rw [hlast] at r1 r2 c0 c1 HX
        obtain ⟨d0, d1⟩ := HX.out.2.1.cells
        have k0 := HX.out.2.1.frozen 0
        have k1 := HX.out.2.1.frozen 1
        have SS := HX.out.2.1.store (.int .i64 (trnR x y n)) (.int .i64 (trnI x y n))
        have BB := Lib.hid (below_set (o := 1) (x := .int .i64 (trnI x y n)) (below_set (o := 0) (x := .int .i64 (trnR x y n)) HX.out.2.2 (by omega : N ≤ N + 1)) (by omega : N ≤ N + 1))
        clear HX hlast r1 r2
        dsimp only at c0 c1
        generalize hp : trnR x y n = p at *
        generalize hq : trnI x y n = q at *
        go_wp2_with fail
        generalize (wr.setCell ⟨N + 1, 0, none⟩ (.int .i64 p)).setCell ⟨N + 1, 1, none⟩ (.int .i64 q) = W5 at *
        obtain ⟨y0, y1⟩ := SS.cells
        refine bodyPost_ret (v := .agg #[.int .i64 p, .int .i64 q]) ?_ rfl ⟨by first | rfl | rw [hp, hq], BB.out⟩
        clear SS BB
        simp [results, Tryd.results17, y0, y1, go_sem]
  · have g1 : decide (t < 0) = false := by simp; omega
    subst h2
    go_wp2_with fail
    go_loopw [6] (fun iv wr => ∃ j : Nat, j ≤ K ∧ iv = .int .i64 j ∧ Hid (Two wr N 28 (.int .i64 (rotL x y j).1) (.int .i64 (rotL x y j).2) ∧ Two wr (N + 1) 28 (.int .i64 0) (.int .i64 0) ∧ Below N w wr)) (fun iv _ => K - (intOf iv).toNat)
    case atStart => exact ⟨0, Nat.zero_le _, rfl, X0⟩
    case round =>
      clear X0
      obtain ⟨j, hj, rfl, HX⟩ := hrel
      obtain ⟨r1, r2⟩ := rotL_le x y _ hx hy j
      obtain ⟨c0, c1⟩ := HX.out.1.cells
      have f0 := HX.out.1.frozen 0
      have f1 := HX.out.1.frozen 1
      by_cases hlt : j < K
      · have SS := HX.out.1.store (.int .i64 (-(rotL x y j).2)) (.int .i64 (rotL x y j).1)
        have G := grown_trans (grown_set wr N 0 (.int .i64 (-(rotL x y j).2))) (grown_set _ N 1 (.int .i64 (rotL x y j).1))
        have S1 := HX.out.2.1.kept G (by omega)
        have BB := below_set (o := 1) (x := .int .i64 (rotL x y j).1) (below_set (o := 0) (x := .int .i64 (-(rotL x y j).2)) HX.out.2.2 (Nat.le_refl _)) (Nat.le_refl _)
        have X5 := Lib.hid (And.intro (show Two _ N 28 (.int .i64 (rotL x y (j + 1)).1) (.int .i64 (rotL x y (j + 1)).2) from SS) (And.intro S1 BB))
        clear SS G S1 BB HX
        generalize (rotL x y j).1 = p at *
        generalize (rotL x y j).2 = q at *
        have i0 : (j : Int) < (K : Int) := by omega
        have wq : IntKind.i64.wrap (-q) = -q := IntWalk.i64_in _ (by omega)
        go_wp2_with fail
        generalize (wr.setCell ⟨N, 0, none⟩ (.int .i64 (-q))).setCell ⟨N, 1, none⟩ (.int .i64 p) = W5 at *
        go_wp2_with fail
        go_roundw
        case rel => exact ⟨j + 1, by omega, by go_num, X5⟩
        case measure => simp [intOf]; omega
      · have hjK : j = K := by omega
        subst hjK
        have i0 : ¬ (j : Int) < (j : Int) := by omega
        rw [hlast] at r1 r2 c0 c1 HX
        obtain ⟨d0, d1⟩ := HX.out.2.1.cells
        have k0 := HX.out.2.1.frozen 0
        have k1 := HX.out.2.1.frozen 1
        have SS := HX.out.2.1.store (.int .i64 (trnR x y n)) (.int .i64 (trnI x y n))
        have BB := Lib.hid (below_set (o := 1) (x := .int .i64 (trnI x y n)) (below_set (o := 0) (x := .int .i64 (trnR x y n)) HX.out.2.2 (by omega : N ≤ N + 1)) (by omega : N ≤ N + 1))
        clear HX hlast r1 r2
        dsimp only at c0 c1
        generalize hp : trnR x y n = p at *
        generalize hq : trnI x y n = q at *
        go_wp2_with fail
        generalize (wr.setCell ⟨N + 1, 0, none⟩ (.int .i64 p)).setCell ⟨N + 1, 1, none⟩ (.int .i64 q) = W5 at *
        obtain ⟨y0, y1⟩ := SS.cells
        refine bodyPost_ret (v := .agg #[.int .i64 p, .int .i64 q]) ?_ rfl ⟨by first | rfl | rw [hp, hq], BB.out⟩
        clear SS BB
        simp [results, Tryd.results17, y0, y1, go_sem]
theorem given_any (x y : Int) (hx : x.natAbs < 9007199254740992) (hy : y.natAbs < 9007199254740992) (w : World) :
    Calls Tryd.prog 11 #[.agg #[.int .i64 x, .int .i64 y]] w fun e w' => (∃ re im, e = .returned (.complex .f64 re im) ∧ IsF re x ∧ IsF im y) ∧ Below w.heap.size w w' := by
  have T0 := Two.new w 28 (.int .i64 x) (.int .i64 y)
  have bA := (Below.refl w.heap.size w).alloc (Nat.le_refl _) (.cells #[.int .i64 x, .int .i64 y] 28)
  obtain ⟨t0, t1⟩ := T0.cells
  have f1 := ofInt_isF x hx
  have f2 := ofInt_isF y hy
  clear T0 hx hy
  go_enter Tryd.func11, Tryd.ntmps11
  go_wp2_with fail
  go_ret
  exact ⟨⟨_, _, rfl, f1, f2⟩, bA⟩
end Go.Proofs.YtplobfiopbncpaaDoor
