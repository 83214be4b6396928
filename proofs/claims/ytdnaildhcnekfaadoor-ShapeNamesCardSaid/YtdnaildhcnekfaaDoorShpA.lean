/- Layer 8: the parameters of each link, Count, New. -/
import Derived.Test.YtdnaildhcnekfaaDoorShpM
import Derived.Test.YtdnaildhcnekfaaDoorPartE
import Derived.Test.YtdnaildhcnekfaaDoorAppL
import Derived.Test.YtdnaildhcnekfaaDoorShelf
import Derived.Deep.Cut
import Derived.Deep.RegionHeld3
namespace Go.Proofs.YtdnaildhcnekfaaDoor
open Go.RowKit
set_option linter.unusedVariables false
theorem IntsW.pos {q : IntKind} {n₀ : Nat} {w : World} {v : Value} {zs : List Int} (h : IntsW q n₀ w v zs) (hp : 0 < zs.length) : IntsAt q n₀ w v zs := by
  rcases h with ⟨rfl, _⟩ | h
  · cases hp
  · exact h
/-- what the closure does: the sum and the list go on -/
def Added (E L : Nat) (s : Int) (xs : List Int) (base : Nat) (w : World) (e : Ending) (w' : World) : Prop :=
  e = .returned (.tuple #[]) ∧ w'.cell? ⟨E, 0, none⟩ = some (.int .i64 s) ∧ w'.frozen? ⟨E, 0, none⟩ = false ∧ (∃ v, w'.cell? ⟨L, 0, none⟩ = some v ∧ w'.ownsRow base 3 1 v xs.length (xs.map (Value.int .i64)) ∧ ∀ q, v.ownBlock = some q → q ≠ E ∧ q ≠ L) ∧ w'.frozen? ⟨L, 0, none⟩ = false ∧ Below base w w'
set_option maxHeartbeats 1000000 in
theorem add_any (E L base : Nat) (hEL : L < E) (hb : base ≤ L) (s x y : Int) (xs : List Int) (hx : 0 ≤ x ∧ x ≤ 1048576) (hy : 0 ≤ y ∧ y ≤ 1048576) (hs : 0 ≤ s ∧ s ≤ 1099511627776000) (hl : xs.length ≤ 1048576) (w : World)
    (hE : w.cell? ⟨E, 0, none⟩ = some (.int .i64 s)) (fE : w.frozen? ⟨E, 0, none⟩ = false) (v : Value) (hL : w.cell? ⟨L, 0, none⟩ = some v) (fL : w.frozen? ⟨L, 0, none⟩ = false) (ho : w.ownsRow base 3 1 v xs.length (xs.map (Value.int .i64))) (hne : ∀ q, v.ownBlock = some q → q ≠ E ∧ q ≠ L) :
    Calls Tryd.prog 37 #[.int .i64 x, .int .i64 y, .pointer (some ⟨E, 0, none⟩), .pointer (some ⟨L, 0, none⟩)] w (Added E L (s + (x + 1) * y) (xs ++ [s + (x + 1) * y]) base w) := by
  obtain ⟨a, c, rfl⟩ := own_value ho
  have p0 := Int.mul_nonneg (show 0 ≤ x + 1 by omega) hy.1
  have p1 : (x + 1) * y ≤ 1048577 * 1048576 := Int.mul_le_mul (by omega) hy.2 hy.1 (by omega)
  have w0 : IntKind.i64.wrap (x + 1) = x + 1 := IntWalk.i64_in _ (by omega)
  have w1 : IntKind.i64.wrap ((x + 1) * y) = (x + 1) * y := IntWalk.i64_in _ (by omega)
  have w2 : IntKind.i64.wrap (s + (x + 1) * y) = s + (x + 1) * y := IntWalk.i64_in _ (by omega)
  have hEw : E < w.heap.size := World.block_lt_of_cell? _ _ hE
  have HNE := Lib.hid hne
  clear hne
  go_enter Tryd.func37, Tryd.ntmps37
  go_upto_region 1 with fail
  generalize s + (x + 1) * y = z at *
  have gE := grown_set w E 0 (.int .i64 z)
  have cE := World.cell?_setCell_same w ⟨E, 0, none⟩ (.int .i64 z) hE
  have cL : (w.setCell ⟨E, 0, none⟩ (.int .i64 z)).cell? ⟨L, 0, none⟩ = some (.slice a xs.length c) := (World.cell?_setCell_other w ⟨E, 0, none⟩ ⟨L, 0, none⟩ (.int .i64 z) (by intro e; cases e; omega)).trans hL
  have fE1 : (w.setCell ⟨E, 0, none⟩ (.int .i64 z)).frozen? ⟨E, 0, none⟩ = false := (World.frozen?_setCell _ _ _ _).trans fE
  have fL1 : (w.setCell ⟨E, 0, none⟩ (.int .i64 z)).frozen? ⟨L, 0, none⟩ = false := (World.frozen?_setCell _ _ _ _).trans fL
  have O1 := Lib.hid (ho.kept gE (show (Value.slice a xs.length c).ownBlock = none ∨ _ from by
    cases h : (Value.slice a xs.length c).ownBlock with
    | none => exact .inl rfl
    | some q => exact .inr (fun e => (HNE.out q h).1 (by cases e; rfl))))
  have B1 := Lib.hid (below_set (Below.refl base w) (show base ≤ E by omega) (o := 0) (x := .int .i64 z))
  have hs1 : base ≤ (w.setCell ⟨E, 0, none⟩ (.int .i64 z)).heap.size := by have := gE.size; omega
  have hEw1 : E < (w.setCell ⟨E, 0, none⟩ (.int .i64 z)).heap.size := by have := gE.size; omega
  clear hE fE hL fL ho gE
  generalize w.setCell ⟨E, 0, none⟩ (.int .i64 z) = W1 at *
  go_wp2_with (at_builtin; refine append_one_lies (v := .slice a xs.length c) (g := W1.heap.size) elemI rfl _ _ rfl rfl rfl rfl O1.out rfl ?_ ?_ ?_ ?_ ?_; (simp [Value.oneCell']); (unfold maxLen; omega); omega; (exact hs1); intro b' cap' w9 ho' hg' hat9; have HO9 := Lib.hid ho'; have HAT := Lib.hid hat9; have HG9 := Lib.hid hg'; have D9 := Lib.hid (below_appended (Below.refl base W1) O1.out hg' (Nat.le_refl _) hs1); have hbE := hg'.block E hEw1 (fun e => (HNE.out E e.symm).1 rfl); have hbL := hg'.block L (by omega) (fun e => (HNE.out L e.symm).2 rfl); have e9 : w9.cell? ⟨E, 0, none⟩ = _ := (World.cell?_of_block (a := ⟨E, 0, none⟩) hbE).trans cE; have l9 : w9.cell? ⟨L, 0, none⟩ = _ := (World.cell?_of_block (a := ⟨L, 0, none⟩) hbL).trans cL; have ef9 : w9.frozen? ⟨E, 0, none⟩ = false := (by simp only [World.frozen?, hbE]; exact fE1); have lf9 : w9.frozen? ⟨L, 0, none⟩ = false := (by simp only [World.frozen?, hbL]; exact fL1); clear ho' hg' hat9 hbE hbL)
  go_end0
  have gL := grown_set w9 L 0 (.slice (some ⟨b', 0, none⟩) (xs.length + 1) cap')
  have hb' : b' ≠ E ∧ b' ≠ L := by
    rcases HAT.out with h | h
    · exact HNE.out _ h
    · omega
  refine ⟨rfl, (World.cell?_setCell_other w9 ⟨L, 0, none⟩ ⟨E, 0, none⟩ _ (by intro e; cases e; omega)).trans e9, (World.frozen?_setCell _ _ _ _).trans ef9, ⟨_, World.cell?_setCell_same _ _ _ l9, ?_, fun q e => by cases e; exact hb'⟩, (World.frozen?_setCell _ _ _ _).trans lf9, below_set (B1.out.trans D9.out) (by omega)⟩
  have := HO9.out.kept gL (Or.inr (by simp [Value.ownBlock]; exact hb'.2))
  simpa using this
set_option maxHeartbeats 2000000 in
theorem starts_any (v : Value) (ss : List Int) (h2 : 2 ≤ ss.length) (h16 : ss.length ≤ 16) (hg : goodTo ss ss.length) (w : World) (hv : IntsAt .i64 w.heap.size w v ss) :
    Calls Tryd.prog 29 #[v] w (ClonedTo 3 1 ss.length ((stL ss (ss.length - 1)).map (Value.int .i64)) w) := by
  rcases hv.form with ⟨_, e0⟩ | ⟨b, off, cap, rfl, hcap, hb, hcs⟩
  · rw [e0] at h2; simp at h2
  have HV := Lib.hid hv
  have HCS := Lib.hid hcs
  have hr := fun W => run_cut_l (P := Tryd.prog) (T := 22) (s := 1) (by kernel_rfl) (fun w => by kernel_rfl) (some ⟨b, off, none⟩) ss.length cap .i64 1 (by omega) (by omega) W
  rw [show (1 : Int).toNat = 1 from rfl] at hr
  have hcut : cutv (some ⟨b, off, none⟩) 1 ss.length cap 1 = .slice (some ⟨b, off + 1, none⟩) (ss.length - 1) (cap - 1) := by
    unfold cutv sliced
    rw [if_neg (by omega)]
    simp [Go.WideShapes.add_plain]
  rw [hcut] at hr
  have al1 := (Below.refl w.heap.size w).alloc (Nat.le_refl _) (.cells #[.int .i64 0] 3)
  have o1 := World.ownsRow_lit (w := w) (e := 3) (size := 1) (base := w.heap.size) #[.int .i64 0] 1 (Nat.le_refl _) (by unfold maxLen; omega) rfl
  have L1 := cell_new (w.alloc (.cells #[.int .i64 0] 3)) #[.slice (some ⟨w.heap.size, 0, none⟩) 1 1] 22 0
  have fL1 := World.frozen?_alloc_new (w.alloc (.cells #[.int .i64 0] 3)) #[.slice (some ⟨w.heap.size, 0, none⟩) 1 1] 22 0
  have al2 := (Below.refl (w.alloc (.cells #[.int .i64 0] 3)).heap.size (w.alloc (.cells #[.int .i64 0] 3))).alloc (Nat.le_refl _) (.cells #[.slice (some ⟨w.heap.size, 0, none⟩) 1 1] 22)
  have al3 := (Below.refl ((w.alloc (.cells #[.int .i64 0] 3)).alloc (.cells #[.slice (some ⟨w.heap.size, 0, none⟩) 1 1] 22)).heap.size ((w.alloc (.cells #[.int .i64 0] 3)).alloc (.cells #[.slice (some ⟨w.heap.size, 0, none⟩) 1 1] 22))).alloc (Nat.le_refl _) (.cells #[.int .i64 0] 3)
  have E1 := cell_new ((w.alloc (.cells #[.int .i64 0] 3)).alloc (.cells #[.slice (some ⟨w.heap.size, 0, none⟩) 1 1] 22)) #[.int .i64 0] 3 0
  have fE1 := World.frozen?_alloc_new ((w.alloc (.cells #[.int .i64 0] 3)).alloc (.cells #[.slice (some ⟨w.heap.size, 0, none⟩) 1 1] 22)) #[.int .i64 0] 3 0
  simp only [List.getElem?_toArray, List.getElem?_cons_zero] at L1 E1
  have l3 := cell_step al3 L1
  have lf3 := frozen_step al3 L1 fL1
  have O3 := Lib.hid (own_below (own_below o1 al2) al3)
  have A3 := Lib.hid (below_step (below_step al1 al2) al3)
  rw [World.size_alloc] at l3 lf3
  rw [World.size_alloc, World.size_alloc] at E1 fE1
  go_enter Tryd.func29, Tryd.ntmps29
  go_upto_region 3 with fail
  clear al1 al2 al3 o1 L1 fL1 hcut
  generalize ((w.alloc (.cells #[.int .i64 0] 3)).alloc (.cells #[.slice (some ⟨w.heap.size, 0, none⟩) 1 1] 22)).alloc (.cells #[.int .i64 0] 3) = W3 at *
  have HG := Lib.hid hg
  have O3' := Lib.hid (show W3.ownsRow w.heap.size 3 1 (.slice (some ⟨w.heap.size, 0, none⟩) 1 1) (stL ss 0).length ((stL ss 0).map (Value.int .i64)) from O3.out)
  have X3 := Lib.hid (And.intro E1 (And.intro fE1 (And.intro l3 lf3)))
  clear hcs hv hg O3 E1 fE1 l3 lf3
  generalize hN : w.heap.size = N at *
  go_wp2_with fail
  go_loopw [6, 7, 13] (fun _ _ iv wr => ∃ k : Nat, ∃ vl : Value, k ≤ ss.length - 1 ∧ iv = .int .i64 k ∧ Hid (wr.cell? ⟨N + 2, 0, none⟩ = some (.int .i64 (stTo ss k)) ∧ wr.frozen? ⟨N + 2, 0, none⟩ = false ∧ wr.cell? ⟨N + 1, 0, none⟩ = some vl ∧ wr.frozen? ⟨N + 1, 0, none⟩ = false) ∧ Hid (wr.ownsRow N 3 1 vl (stL ss k).length ((stL ss k).map (Value.int .i64))) ∧ Hid (∀ q, vl.ownBlock = some q → q ≠ N + 2 ∧ q ≠ N + 1) ∧ Hid (Below N w wr)) (fun _ _ iv _ => ss.length - (intOf iv).toNat)
  case atStart => exact ⟨0, _, Nat.zero_le _, rfl, X3, O3', Lib.hid (fun q e => by cases e; show N ≠ N + 2 ∧ N ≠ N + 1; omega), A3⟩
  case round =>
    clear X3 O3' A3
    obtain ⟨k, vl, hk, rfl, HX, HO, HNE, HB⟩ := hrel
    by_cases hlt : k < ss.length - 1
    · have g1 := goodB_iff.1 (HG.out k (by omega))
      have g2 := goodB_iff.1 (HG.out (k + 1) (by omega))
      have rg := st_range (k := k) HG.out (by omega)
      have c1 := (HB.out.cell (p := ⟨b, off + k, none⟩) hb).trans (HCS.out k (by omega))
      have c2 := (HB.out.cell (p := ⟨b, off + (k + 1), none⟩) hb).trans (HCS.out (k + 1) (by omega))
      rw [show off + (k + 1) = off + 1 + k by omega] at c2
      have hbw : b < wr.heap.size := World.block_lt_of_cell? _ _ c1
      have HAD := Lib.hid (add_any (N + 2) (N + 1) N (by omega) (by omega) (stTo ss k) (ss[k]?.getD 0) (ss[k + 1]?.getD 0) (stL ss k) (by omega) (by omega) (by omega) (by rw [stL_length]; omega) wr HX.out.1 HX.out.2.1 vl HX.out.2.2.1 HX.out.2.2.2 HO.out HNE.out)
      have HS : Hid (stTo ss k + (ss[k]?.getD 0 + 1) * ss[k + 1]?.getD 0 = stTo ss (k + 1)) := Lib.hid rfl
      rw [HS.out, ← stL_succ] at HAD
      unfold Added at HAD
      clear rg HS
      generalize ss[k]?.getD 0 = x at *
      generalize ss[k + 1]?.getD 0 = y at *
      go_wp2_with fail
      refine HAD.out.mono ?_
      rintro e w5 ⟨rfl, x1, x2, ⟨v5, x3, x4, x5⟩, x6, b5⟩
      have X5 := Lib.hid (And.intro x1 (And.intro x2 (And.intro x3 x6)))
      have O5 := Lib.hid x4
      have N5 := Lib.hid x5
      have B5 := Lib.hid (HB.out.trans b5)
      clear x1 x2 x3 x4 x5 x6 b5 c1 c2 HX HO HNE HB HAD
      go_wp2_with fail
      go_roundw
      case rel => exact ⟨k + 1, _, by omega, by go_num, X5, O5, N5, B5⟩
      case measure => simp [intOf]; omega
    · have hke : k = ss.length - 1 := by omega
      have HKE := Lib.hid hke
      have HO2 := Lib.hid (show wr.ownsRow N 3 1 vl ss.length ((stL ss (ss.length - 1)).map (Value.int .i64)) by rw [← HKE.out]; have h := HO.out; rw [stL_length, show k + 1 = ss.length by omega] at h; exact h)
      have cl := HX.out.2.2.1
      clear hke HX HO
      obtain ⟨al, cl', rfl⟩ := own_value HO2.out
      go_wp2_with fail
      go_ret
      unfold ClonedTo
      rw [hN]
      exact ⟨_, rfl, HO2.out, HB.out⟩
/-- a shape in memory, whose lists lie in blocks from N on -/
def ShapeAt (N b : Nat) (w : World) (ss : List Int) : Prop :=
  N ≤ b ∧ b < w.heap.size ∧ 2 ≤ ss.length ∧ ∃ v u, w.cell? ⟨b, 0, none⟩ = some v ∧ w.cell? ⟨b, 1, none⟩ = some u ∧ w.ownsRow N 3 1 v ss.length (ss.map (Value.int .i64)) ∧ w.ownsRow N 3 1 u ss.length ((stL ss (ss.length - 1)).map (Value.int .i64))
theorem ShapeAt.kept {N b : Nat} {w w' : World} {ss : List Int} {row : Option Nat} (h : ShapeAt N b w ss) (hg : w.grownBy w' row) (hr : ∀ k, row = some k → k < N) : ShapeAt N b w' ss := by
  obtain ⟨h0, hb, h2, v, u, c0, c1, o0, o1⟩ := h
  have hc : ∀ o, w'.cell? ⟨b, o, none⟩ = w.cell? ⟨b, o, none⟩ := fun o => by
    simp only [World.cell?, hg.block b hb (fun e => by have := hr b e.symm; omega)]
  exact ⟨h0, Nat.lt_of_lt_of_le hb hg.size, h2, v, u, (hc 0).trans c0, (hc 1).trans c1, row_other o0 hg hr, row_other o1 hg hr⟩
theorem ShapeAt.later {N b : Nat} {w w' : World} {ss : List Int} (h : ShapeAt N b w ss) (hb : Below w.heap.size w w') : ShapeAt N b w' ss := h.kept (grown_below hb none) (fun k e => by cases e)
theorem links_any (N b : Nat) (ss : List Int) (hm : ss.length ≤ 1048576) (w : World) (h : ShapeAt N b w ss) :
    Calls Tryd.prog 13 #[.pointer (some ⟨b, 0, none⟩)] w fun e w' => e = .returned (.int .i64 ((ss.length - 1 : Nat) : Int)) ∧ w = w' := by
  obtain ⟨h0, hb, h2, v, u, c0, c1, o0, o1⟩ := h
  obtain ⟨a, c, rfl⟩ := own_value o0
  have wk : IntKind.i64.wrap ((ss.length : Int) - 1) = ((ss.length - 1 : Nat) : Int) := by
    rw [show ((ss.length - 1 : Nat) : Int) = (ss.length : Int) - 1 by omega]
    exact IntWalk.i64_in _ (by omega)
  clear o0 o1 c1
  go_enter Tryd.func13, Tryd.ntmps13
  go_wp2_with fail
  go_ret
  exact ⟨by first | rfl | (congr 2; omega), rfl⟩
theorem count_shape (N b : Nat) (ss : List Int) (hm : ss.length ≤ 1048576) (w : World) (h : ShapeAt N b w ss) :
    Calls Tryd.prog 14 #[.pointer (some ⟨b, 0, none⟩)] w fun e w' => e = .returned (.int .i64 (stTo ss (ss.length - 1))) ∧ Below w.heap.size w w' := by
  have HL := Lib.hid (fun W (hW : ShapeAt N b W ss) => links_any N b ss hm W hW)
  have HS := Lib.hid (fun q => h.later (below_drewN (Below.refl w.heap.size w) q))
  obtain ⟨h0, hb, h2, v, u, c0, c1, o0, o1⟩ := h
  obtain ⟨g, c, rfl, hg1, hg2⟩ := own_some o1 (by omega)
  have cs := o1.cellAt (ss.length - 1) (by omega)
  rw [List.getElem?_map, stL_at ss _ _ (Nat.le_refl _)] at cs
  simp only [Option.map_some] at cs
  have i0 : (0 : Int) ≤ ((ss.length - 1 : Nat) : Int) := by omega
  have i1 : ((ss.length - 1 : Nat) : Int) < (ss.length : Int) := by omega
  have i2 : ss.length - 1 < ss.length := by omega
  clear o0 o1
  generalize stTo ss (ss.length - 1) = z at *
  generalize ss.length - 1 = k at *
  go_enter Tryd.func14, Tryd.ntmps14
  go_wp2_with fail
  go_quiet ((go_at_call 13; exact (HL.out _ (HS.out _)).mono (fun _ _ h => ⟨h.1, _, h.2.symm⟩)))
  have B := below_drewN (Below.refl w.heap.size w) nq
  generalize (World.drewN _ nq) = W2 at *
  go_wp2_with fail
  go_ret
  exact ⟨rfl, B⟩
end Go.Proofs.YtdnaildhcnekfaaDoor
