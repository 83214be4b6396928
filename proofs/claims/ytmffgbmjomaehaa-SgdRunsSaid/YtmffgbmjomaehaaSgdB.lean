/- Updating a range of parameters in place: Apply. -/
import Derived.Test.YtmffgbmjomaehaaSgdA
namespace Go.Proofs.Ytmffgbmjomaehaa
open Go.RowKit
set_option linter.unusedVariables false
def applyOk (zp zm zg : List Int) (lo hi : Int) : Bool := decide (zp.length = zm.length ∧ 0 ≤ lo ∧ lo ≤ hi ∧ hi ≤ (zp.length : Int) ∧ (zg.length : Int) = hi - lo)
def subL2 (z : List Int) (l h : Nat) : List Int := (z.take h).drop l
theorem subL2_length (z : List Int) (l h : Nat) (hh : h ≤ z.length) : (subL2 z l h).length = h - l := by unfold subL2; simp; omega
def apM (zm zg : List Int) (l h : Nat) (mom q : Int) : List Int := splice zm l (nextM (subL2 zm l h) zg mom q)
def apP (zp zm zg : List Int) (l h : Nat) (rate mom q : Int) : List Int := splice zp l (nextP (subL2 zp l h) (nextM (subL2 zm l h) zg mom q) rate q)
def apB (zg : List Int) (l h : Nat) : Bool := decide (zg.length = h - l)
def apPo (zp zm zg : List Int) (l h : Nat) (rate mom q : Int) : List Int := if zg.length = h - l then apP zp zm zg l h rate mom q else zp
def apMo (zm zg : List Int) (l h : Nat) (mom q : Int) : List Int := if zg.length = h - l then apM zm zg l h mom q else zm
theorem splice_map (f : Int → Value) (z y : List Int) (l : Nat) : (splice z l y).map f = splice (z.map f) l (y.map f) := by unfold splice; simp
/-- what Apply leaves: two rows, and nothing else that was there -/
def AppliedTo (base : Nat) (v u : Value) (n m : Nat) (ok : Bool) (zp zm : List Int) (w : World) (e : Ending) (w' : World) : Prop :=
  e = .returned (.bool ok) ∧ w'.ownsRow base 2 1 v n (zp.map (Value.int .i64)) ∧ w'.ownsRow base 2 1 u m (zm.map (Value.int .i64)) ∧ ∃ W1, w.grownBy W1 v.ownBlock ∧ W1.grownBy w' u.ownBlock
theorem apply_guard (rate mom q lo hi : Int) (p m g : Value) (zp zm zg : List Int) (base : Nat) (w : World) (op : w.ownsRow base 2 1 p zp.length (zp.map (Value.int .i64))) (om : w.ownsRow base 2 1 m zm.length (zm.map (Value.int .i64))) (ig : IntsW .i64 w.heap.size w g zg) (hno : zp.length ≠ zm.length ∨ (zp.length = zm.length ∧ lo < 0) ∨ (zp.length = zm.length ∧ 0 ≤ lo ∧ hi < lo) ∨ (zp.length = zm.length ∧ 0 ≤ lo ∧ lo ≤ hi ∧ (zp.length : Int) < hi)) :
    Calls Try.prog 16 #[.agg #[.int .i64 rate, .int .i64 mom, .int .i64 q], .agg #[p, m], .agg #[.int .i64 lo, .int .i64 hi], g] w (AppliedTo base p m zp.length zm.length false zp zm w) := by
  have BW : Below w.heap.size w (((w.alloc (.cells #[.int .i64 rate, .int .i64 mom, .int .i64 q] 35)).alloc (.cells #[p, m] 31)).alloc (.cells #[.int .i64 lo, .int .i64 hi] 47)) :=
    (((Below.refl w.heap.size w).alloc (Nat.le_refl _) _).alloc (by simp) _).alloc (by simp <;> omega) _
  have HO : Hid (AppliedTo base p m zp.length zm.length false zp zm w (.returned (.bool false)) (((w.alloc (.cells #[.int .i64 rate, .int .i64 mom, .int .i64 q] 35)).alloc (.cells #[p, m] 31)).alloc (.cells #[.int .i64 lo, .int .i64 hi] 47))) := Lib.hid ⟨rfl, own_below op BW, own_below om BW, _, grown_below BW _, grown_below (Below.refl _ _) _⟩
  obtain ⟨ap, cp, rfl⟩ := own_value op
  obtain ⟨am, cm, rfl⟩ := own_value om
  obtain ⟨ag, cg, rfl⟩ := ig.value
  clear op om ig BW
  rcases hno with h1 | ⟨h1, h2⟩ | ⟨h1, h2, h3⟩ | ⟨h1, h2, h3, h4⟩
  · have g1 : ((zp.length : Int) != (zm.length : Int)) = true := by simp; omega
    clear h1
    go_enter Try.func16, Try.ntmps16
    go_wp2_with fail
    go_ret
    exact HO.out
  · have g1 : ((zp.length : Int) != (zm.length : Int)) = false := by simp [h1]
    have g2 : decide (lo < 0) = true := by simpa using h2
    clear h1
    go_enter Try.func16, Try.ntmps16
    go_wp2_with fail
    go_ret
    exact HO.out
  · have g1 : ((zp.length : Int) != (zm.length : Int)) = false := by simp [h1]
    have g2 : decide (lo < 0) = false := by simp; omega
    have g2' : ¬ lo < 0 := by omega
    have g3 : decide (hi < lo) = true := by simpa using h3
    clear h1
    go_enter Try.func16, Try.ntmps16
    go_wp2_with fail
    go_ret
    exact HO.out
  · have g1 : ((zp.length : Int) != (zm.length : Int)) = false := by simp [h1]
    have g2 : decide (lo < 0) = false := by simp; omega
    have g2' : ¬ lo < 0 := by omega
    have g3 : decide (hi < lo) = false := by simp; omega
    have g3' : ¬ hi < lo := by omega
    have g4 : decide ((zp.length : Int) < hi) = true := by simpa using h4
    clear h1
    go_enter Try.func16, Try.ntmps16
    go_wp2_with fail
    go_ret
    exact HO.out
theorem cut_form (a : Option Addr) (n cap l h : Nat) {base : Nat} {e : TypeId} {w : World} {xs : List Value} (ho : w.ownsRow base e 1 (.slice a n cap) n xs) (hl : l ≤ h) (hh : h ≤ n) :
    ∃ dp dc, cutv a l h cap 1 = .slice dp (h - l) dc ∧ (0 < h - l → ∃ g, a = some ⟨g, 0, none⟩ ∧ dp = some ⟨g, l, none⟩) := by
  unfold cutv sliced
  by_cases hm : cap = l
  · rw [if_pos hm]
    rcases ho.2 with ⟨e0, hn⟩ | ⟨g', cap', cur, e0, hb, hg, hn, hcap, hsz, htk⟩
    · cases e0
      exact ⟨_, _, rfl, fun hp => by omega⟩
    · cases e0
      exact ⟨_, _, rfl, fun hp => by omega⟩
  · rw [if_neg hm]
    rcases ho.2 with ⟨e0, hn⟩ | ⟨g', cap', cur, e0, hb, hg, hn, hcap, hsz, htk⟩
    · cases e0
      exact ⟨_, _, rfl, fun hp => by omega⟩
    · cases e0
      exact ⟨_, _, rfl, fun hp => ⟨g', rfl, by simp [Go.WideShapes.add_plain]⟩⟩
theorem copy_src {base n c : Nat} {e : TypeId} {a : Option Addr} {w : World} {xs : List Value} (ho : w.ownsRow base e 1 (.slice a n c) n xs) (h0 : 0 < n) : ∃ ad, a = some ad ∧ ∀ j v, xs[j]? = some v → w.cell? (ad.add j) = some v := by
  obtain ⟨g, c', e0, hb, hl⟩ := own_some ho h0
  cases e0
  refine ⟨_, rfl, fun j v hj => ?_⟩
  have hlen : xs.length = n := by have := ho.1; omega
  have hjl : j < xs.length := by
    apply Nat.lt_of_not_le
    intro hge
    rw [List.getElem?_eq_none hge] at hj
    cases hj
  rw [Go.WideShapes.add_plain, Nat.zero_add, ho.cellAt j (by omega), hj]
set_option maxHeartbeats 4000000 in
theorem apply_in (rate mom q : Int) (l h : Nat) (p m g : Value) (zp zm zg : List Int) (base : Nat) (hr : Word rate) (ho : Word mom) (wp_ : ∀ z ∈ zp, Word z) (wm_ : ∀ z ∈ zm, Word z) (hp : zp.length * 8 ≤ 140737488351232) (hm : zm.length * 8 ≤ 140737488351232) (hg : zg.length * 8 ≤ 140737488351232) (w : World) (op : w.ownsRow base 2 1 p zp.length (zp.map (Value.int .i64))) (om : w.ownsRow base 2 1 m zm.length (zm.map (Value.int .i64))) (pm : ∀ k, p.ownBlock = some k → m.ownBlock ≠ some k) (ig : IntsW .i64 w.heap.size w g zg) (h1 : zp.length = zm.length) (h2 : l ≤ h) (h3 : h ≤ zp.length) :
    Calls Try.prog 16 #[.agg #[.int .i64 rate, .int .i64 mom, .int .i64 q], .agg #[p, m], .agg #[.int .i64 (l : Int), .int .i64 (h : Int)], g] w (AppliedTo base p m zp.length zm.length (apB zg l h) (apPo zp zm zg l h rate mom q) (apMo zm zg l h mom q) w) := by
  have BA := (Below.refl w.heap.size w).alloc (Nat.le_refl _) (.cells #[.int .i64 rate, .int .i64 mom, .int .i64 q] 35)
  have r0 := cell_new w #[.int .i64 rate, .int .i64 mom, .int .i64 q] 35 0
  have r1 := cell_new w #[.int .i64 rate, .int .i64 mom, .int .i64 q] 35 1
  have r2 := cell_new w #[.int .i64 rate, .int .i64 mom, .int .i64 q] 35 2
  simp only [List.getElem?_toArray, List.getElem?_cons_zero, List.getElem?_cons_succ] at r0 r1 r2
  obtain ⟨ap, cp, rfl⟩ := own_value op
  obtain ⟨am, cm, rfl⟩ := own_value om
  obtain ⟨ag, cg, rfl⟩ := ig.value
  have HPM := Lib.hid pm
  obtain ⟨dp, dc, hcutp, hposp⟩ := cut_form ap zp.length cp l h op h2 h3
  obtain ⟨dm, ec, hcutm, hposm⟩ := cut_form am zm.length cm l h om h2 (by omega)
  have hcapp : (h : Int) ≤ cp := by rcases op.2 with ⟨e, e2⟩ | ⟨g', cap', cur, e, _, _, hc, _⟩ <;> (injection e with e1 e2 e3; omega)
  have hcapm : (h : Int) ≤ cm := by rcases om.2 with ⟨e, e2⟩ | ⟨g', cap', cur, e, _, _, hc, _⟩ <;> (injection e with e1 e2 e3; omega)
  have hsp := fun W => run_cut_lh (P := Try.prog) (T := 29) (s := 1) Try.underlying29 (by intro W; kernel_rfl) ap zp.length cp .i64 .i64 (l : Int) (h : Int) (by omega) (by omega) hcapp W
  have hsm := fun W => run_cut_lh (P := Try.prog) (T := 29) (s := 1) Try.underlying29 (by intro W; kernel_rfl) am zm.length cm .i64 .i64 (l : Int) (h : Int) (by omega) (by omega) hcapm W
  simp only [Int.toNat_natCast] at hsp hsm
  rw [hcutp] at hsp
  rw [hcutm] at hsm
  have HCP := Lib.hid (fun W (b : Below w.heap.size w W) => (show IntsAt .i64 W.heap.size W (.slice dp (h - l) dc) (subL2 zp l h) from by rw [← hcutp]; exact IntsAt.cut h2 h3 (((ints_own op).later b))))
  have HCM := Lib.hid (fun W (b : Below w.heap.size w W) => (show IntsAt .i64 W.heap.size W (.slice dm (h - l) ec) (subL2 zm l h) from by rw [← hcutm]; exact IntsAt.cut h2 (by omega) (((ints_own om).later b))))
  have HIG := Lib.hid (fun W (b : Below w.heap.size w W) => ig.later b)
  have HOP := Lib.hid op
  have HOM := Lib.hid om
  obtain ⟨WA, hWA⟩ : ∃ WA, WA = w.alloc (.cells #[.int .i64 rate, .int .i64 mom, .int .i64 q] 35) := ⟨_, rfl⟩
  have hzA : WA.heap.size = w.heap.size + 1 := by rw [hWA]; simp
  rw [← hWA] at r0 r1 r2 BA
  have BB := (Below.refl WA.heap.size WA).alloc (Nat.le_refl _) (.cells #[.slice ap zp.length cp, .slice am zm.length cm] 31)
  have s01 := cells_two WA (.slice ap zp.length cp) (.slice am zm.length cm) 31
  obtain ⟨WB, hWB⟩ : ∃ WB, WB = WA.alloc (.cells #[.slice ap zp.length cp, .slice am zm.length cm] 31) := ⟨_, rfl⟩
  have hzB : WB.heap.size = w.heap.size + 2 := by rw [hWB]; simp [hzA]
  rw [← hWB] at s01 BB
  have BC := (Below.refl WB.heap.size WB).alloc (Nat.le_refl _) (.cells #[.int .i64 (l : Int), .int .i64 (h : Int)] 47)
  have t01 := cells_two WB (.int .i64 (l : Int)) (.int .i64 (h : Int)) 47
  have hzC : (WB.alloc (.cells #[.int .i64 (l : Int), .int .i64 (h : Int)] 47)).heap.size = w.heap.size + 3 := by simp [hzB]
  have r0 := cell_step BC (cell_step BB r0)
  have r1 := cell_step BC (cell_step BB r1)
  have r2 := cell_step BC (cell_step BB r2)
  have s0 := cell_step BC s01.1
  have s1 := cell_step BC s01.2
  have t0 := t01.1
  have t1 := t01.2
  have AL := (BA.trans (BB.mono (by omega))).trans (BC.mono (by omega))
  rw [hzA] at s0 s1
  rw [hzB] at t0 t1
  subst hWB
  subst hWA
  have g1 : ((zp.length : Int) != (zm.length : Int)) = false := by simp [h1]
  have g2 : decide ((l : Int) < 0) = false := by simp
  have g2' : ¬ (l : Int) < 0 := by omega
  have g3 : decide ((h : Int) < (l : Int)) = false := by simp; omega
  have g3' : ¬ (h : Int) < (l : Int) := by omega
  have g3'' : decide (h < l) = false := by simp; omega
  have g4 : decide ((zp.length : Int) < (h : Int)) = false := by simp; omega
  have g4' : decide (zp.length < h) = false := by simp; omega
  have HL := Lib.hid h1
  clear BA BB BC s01 t01 hzA hzB op om ig h1 hcapp hcapm hcutp hcutm pm
  have HPOSP := Lib.hid hposp
  have HPOSM := Lib.hid hposm
  clear hposp hposm
  go_enter Try.func16, Try.ntmps16
  go_wp2_with fail
  generalize (((w.alloc (.cells #[.int .i64 rate, .int .i64 mom, .int .i64 q] 35)).alloc (.cells #[.slice ap zp.length cp, .slice am zm.length cm] 31)).alloc (.cells #[.int .i64 (l : Int), .int .i64 (h : Int)] 47)) = W0 at *
  generalize hN : w.heap.size = NN at *
  clear g1 g2 g2' g3 g3' g3'' g4 g4'
  refine wp_region_held_drew (S := fun w' => w'.cell? ⟨NN + 1, 0, none⟩ = some (.slice ap zp.length cp) ∧ w'.cell? ⟨NN + 1, 1, none⟩ = some (.slice am zm.length cm) ∧ w'.cell? ⟨NN + 2, 0, none⟩ = some (.int .i64 (l : Int)) ∧ w'.cell? ⟨NN + 2, 1, none⟩ = some (.int .i64 (h : Int)) ∧ Below W0.heap.size W0 w') (by kernel_rfl) ?_ (fun hHeld => ?_)
  · exact ⟨s0, s1, t0, t1, (Below.refl _ _).drew⟩
  refine wpAnyH_take (i := 0) (v := ?v1) rfl (by kernel_rfl) (by kernel_rfl) (by kernel_rfl) (fun _ _ _ h => h) (Or.inl ⟨by rfl, ?hy1⟩) (by assumption) ?rest1
  case hy1 => (intro w hSw; (try dsimp only at hSw); go_simp; (first | done | with_reducible rfl))
  simp only [Act.put, List.setIfInBounds_toArray, List.set_cons_zero, List.set_cons_succ, List.getElem_toArray, List.getElem_cons_zero]
  refine wpAnyH_take (i := 1) (v := ?v2) rfl (by kernel_rfl) (by kernel_rfl) (by kernel_rfl) (fun _ _ _ h => h) (Or.inl ⟨by rfl, ?hy2⟩) (by assumption) ?rest2
  case hy2 => (intro w hSw; (try dsimp only at hSw); go_simp; (first | done | with_reducible rfl))
  simp only [Act.put, List.setIfInBounds_toArray, List.set_cons_zero, List.set_cons_succ, List.getElem_toArray, List.getElem_cons_zero, List.getElem_cons_succ]
  refine wpAnyH_take (i := 2) (v := ?v3) rfl (by kernel_rfl) (by kernel_rfl) (by kernel_rfl) (fun _ _ _ h => h) (Or.inl ⟨by rfl, ?hy3⟩) (by assumption) ?rest3
  case hy3 => (intro w hSw; (try dsimp only at hSw); go_simp; (first | done | with_reducible rfl))
  simp only [Act.put, List.setIfInBounds_toArray, List.set_cons_zero, List.set_cons_succ, List.getElem_toArray, List.getElem_cons_zero, List.getElem_cons_succ]
  refine wpAnyH_take (i := 3) (v := ?v4) rfl (by kernel_rfl) (by kernel_rfl) (by kernel_rfl) (fun _ _ _ h => h) (Or.inl ⟨by rfl, ?hy4⟩) (by assumption) ?rest4
  case hy4 => (intro w hSw; (try dsimp only at hSw); go_simp; (first | done | with_reducible rfl))
  simp only [Act.put, List.setIfInBounds_toArray, List.set_cons_zero, List.set_cons_succ, List.getElem_toArray, List.getElem_cons_zero, List.getElem_cons_succ]
  refine wpAnyH_take (i := 4) (v := ?v5) rfl (by kernel_rfl) (by kernel_rfl) (by kernel_rfl) (fun _ _ _ h => h) (Or.inl ⟨by rfl, ?hy5⟩) (by assumption) ?rest5
  case hy5 => (intro w hSw; (try dsimp only at hSw); go_simp; (first | done | with_reducible rfl))
  simp only [Act.put, List.setIfInBounds_toArray, List.set_cons_zero, List.set_cons_succ, List.getElem_toArray, List.getElem_cons_zero, List.getElem_cons_succ]
  refine wpAnyH_take (i := 5) (v := ?v6) rfl (by kernel_rfl) (by kernel_rfl) (by kernel_rfl) (fun _ _ _ h => h) (Or.inl ⟨by rfl, ?hy6⟩) (by assumption) ?rest6
  case hy6 => (intro w hSw; (try dsimp only at hSw); go_simp; (first | done | with_reducible rfl))
  simp only [Act.put, List.setIfInBounds_toArray, List.set_cons_zero, List.set_cons_succ, List.getElem_toArray, List.getElem_cons_zero, List.getElem_cons_succ]
  refine wpAnyH_take (i := 6) (v := ?v7) rfl (by kernel_rfl) (by kernel_rfl) (by kernel_rfl) (fun _ _ _ h => h) (Or.inl ⟨by rfl, ?hy7⟩) (by assumption) ?rest7
  case hy7 => (intro w hSw; (try dsimp only at hSw); go_simp; (first | done | with_reducible rfl))
  simp only [Act.put, List.setIfInBounds_toArray, List.set_cons_zero, List.set_cons_succ, List.getElem_toArray, List.getElem_cons_zero, List.getElem_cons_succ]
  refine wpAnyH_take (i := 7) (v := ?v8) rfl (by kernel_rfl) (by kernel_rfl) (by kernel_rfl) (fun _ _ _ h => h) (Or.inl ⟨by rfl, ?hy8⟩) (by assumption) ?rest8
  case hy8 => (intro w hSw; (try dsimp only at hSw); go_simp; (first | done | with_reducible rfl))
  simp only [Act.put, List.setIfInBounds_toArray, List.set_cons_zero, List.set_cons_succ, List.getElem_toArray, List.getElem_cons_zero, List.getElem_cons_succ]
  refine wpAnyH_take (i := 8) (v := ?v9) rfl (by kernel_rfl) (by kernel_rfl) (by kernel_rfl) (fun _ _ _ h => h) (Or.inl ⟨by rfl, ?hy9⟩) (by assumption) ?rest9
  case hy9 => (intro w hSw; (try dsimp only at hSw); go_simp; (first | done | with_reducible rfl))
  simp only [Act.put, List.setIfInBounds_toArray, List.set_cons_zero, List.set_cons_succ, List.getElem_toArray, List.getElem_cons_zero, List.getElem_cons_succ]
  refine wpAnyH_take (i := 9) (v := ?v10) rfl (by kernel_rfl) (by kernel_rfl) (by kernel_rfl) (fun _ _ _ h => h) (Or.inl ⟨by rfl, ?hy10⟩) (by assumption) ?rest10
  case hy10 => (intro w hSw; (try dsimp only at hSw); go_simp; (first | done | with_reducible rfl))
  simp only [Act.put, List.setIfInBounds_toArray, List.set_cons_zero, List.set_cons_succ, List.getElem_toArray, List.getElem_cons_zero, List.getElem_cons_succ]
  refine wpAnyH_take (i := 10) (v := ?v11) rfl (by kernel_rfl) (by kernel_rfl) (by kernel_rfl) (fun _ _ _ h => h) (Or.inl ⟨by rfl, ?hy11⟩) (by assumption) ?rest11
  case hy11 => (intro w hSw; (try dsimp only at hSw); go_simp; (first | done | with_reducible rfl))
  simp only [Act.put, List.setIfInBounds_toArray, List.set_cons_zero, List.set_cons_succ, List.getElem_toArray, List.getElem_cons_zero, List.getElem_cons_succ]
  refine wpAnyH_take (i := 11) (v := ?v12) rfl (by kernel_rfl) (by kernel_rfl) (by kernel_rfl) (fun _ _ _ h => h) (Or.inl ⟨by rfl, ?hy12⟩) (by assumption) ?rest12
  case hy12 => (intro w hSw; (try dsimp only at hSw); go_simp; (first | done | with_reducible rfl))
  simp only [Act.put, List.setIfInBounds_toArray, List.set_cons_zero, List.set_cons_succ, List.getElem_toArray, List.getElem_cons_zero, List.getElem_cons_succ]
  refine wpAnyH_take (i := 12) (v := ?v13) rfl (by kernel_rfl) (by kernel_rfl) (by kernel_rfl) (fun _ _ _ h => h) (Or.inl ⟨by rfl, ?hy13⟩) (by assumption) ?rest13
  case hy13 => (intro w hSw; (try dsimp only at hSw); go_simp; (first | done | with_reducible rfl))
  simp only [Act.put, List.setIfInBounds_toArray, List.set_cons_zero, List.set_cons_succ, List.getElem_toArray, List.getElem_cons_zero, List.getElem_cons_succ]
  refine wpAnyH_take (i := 13) (v := ?v14) rfl (by kernel_rfl) (by kernel_rfl) (by kernel_rfl) (fun _ _ _ h => h) (Or.inl ⟨by rfl, ?hy14⟩) (by assumption) ?rest14
  case hy14 => (intro w hSw; (try dsimp only at hSw); go_simp; (first | done | with_reducible rfl))
  simp only [Act.put, List.setIfInBounds_toArray, List.set_cons_zero, List.set_cons_succ, List.getElem_toArray, List.getElem_cons_zero, List.getElem_cons_succ]
  refine wpAnyH_take (i := 14) (v := ?v15) rfl (by kernel_rfl) (by kernel_rfl) (by kernel_rfl) (fun _ _ _ h => h) (Or.inl ⟨by rfl, ?hy15⟩) (by assumption) ?rest15
  case hy15 => (intro w hSw; (try dsimp only at hSw); go_simp; (first | done | with_reducible rfl))
  simp only [Act.put, List.setIfInBounds_toArray, List.set_cons_zero, List.set_cons_succ, List.getElem_toArray, List.getElem_cons_zero, List.getElem_cons_succ]
  refine wpAnyH_ready (rs := [15]) (by kernel_rfl) (by simp) ?_
  refine AllReadyH.cons rfl (fun K hK => ?_) AllReadyH.nil
  simp only [List.getElem_toArray, List.getElem_cons_zero, List.getElem_cons_succ]
  go_simp
  have bU := ((Below.refl W0.heap.size W0).alloc (Nat.le_refl _) (.cells #[.slice none 0 0, .slice none 0 0] 31)).drew
  have hU := cells_two W0 (.slice none 0 0) (.slice none 0 0) 31
  have fU := World.frozen?_alloc_new W0 #[.slice none 0 0, .slice none 0 0] 31
  have bD := (Below.refl (W0.alloc (.cells #[.slice none 0 0, .slice none 0 0] 31)).heap.size (W0.alloc (.cells #[.slice none 0 0, .slice none 0 0] 31))).drew
  have u0 := cell_step bD hU.1
  have u1 := cell_step bD hU.2
  have f0 := frozen_step bD hU.1 (fU 0)
  have f1 := frozen_step bD hU.2 (fU 1)
  rw [hzC] at u0 u1 f0 f1
  have hzU : (W0.alloc (.cells #[.slice none 0 0, .slice none 0 0] 31)).drew.heap.size = NN + 4 := by simp [hzC]
  refine hK.out _ _ ⟨cell_step bU s0, cell_step bU s1, cell_step bU t0, cell_step bU t1, bU⟩ (fun hHeld => ?_)
  clear hK K hHeld hU fU bD
  try simp only [Act.put, List.setIfInBounds_toArray, List.set_cons_zero, List.set_cons_succ, List.getElem_toArray, List.getElem_cons_zero, List.getElem_cons_succ]
  generalize (W0.alloc (.cells #[.slice none 0 0, .slice none 0 0] 31)).drew = WU at *
  refine wpAnyH_ready (rs := [16]) (by kernel_rfl) (by simp) ?_
  refine AllReadyH.cons rfl (fun K hK => ?_) AllReadyH.nil
  simp only [List.getElem_toArray, List.getElem_cons_zero, List.getElem_cons_succ]
  have ST := stored2 (.slice dp (h - l) dc) (.slice dm (h - l) ec) u0 u1 f0 f1
  have B4 := bU.trans (ST.2.2.2.2.mono (by omega))
  have hz4 := ST.2.2.2.2.size
  have n0 := cell_step B4 r0
  have n1 := cell_step B4 r1
  have n2 := cell_step B4 r2
  have n3 := cell_step B4 s0
  have n4 := cell_step B4 s1
  have n5 := cell_step B4 t0
  have n6 := cell_step B4 t1
  have u0' := ST.1
  have u1' := ST.2.1
  clear ST
  go_simp
  refine hK.out _ _ ⟨n3, n4, n5, n6, B4⟩ (fun hHeld => ?_)
  clear hK K hHeld
  try simp only [Act.put, List.setIfInBounds_toArray, List.set_cons_zero, List.set_cons_succ, List.getElem_toArray, List.getElem_cons_zero, List.getElem_cons_succ]
  refine wpAnyH_done (by kernel_rfl) ?_ _
  generalize (WU.setCell ⟨NN + 3, 0, none⟩ (.slice dp (h - l) dc)).setCell ⟨NN + 3, 1, none⟩ (.slice dm (h - l) ec) = W4 at *
  have A4 := AL.trans (B4.mono (by omega))
  have HNX := Lib.hid (next_any rate mom q hr ho (.slice dp (h - l) dc) (.slice dm (h - l) ec) (.slice ag zg.length cg) (subL2 zp l h) (subL2 zm l h) zg (fun z hz => wp_ z (List.mem_of_mem_take (List.mem_of_mem_drop hz))) (fun z hz => wm_ z (List.mem_of_mem_take (List.mem_of_mem_drop hz))) (by rw [subL2_length _ _ _ h3]; omega) (by rw [subL2_length _ _ _ (by rw [← HL.out]; exact h3)]; omega) hg W4 (HCP.out W4 A4) (HCM.out W4 A4) (HIG.out W4 A4))
  have hok : nextOk (subL2 zp l h) (subL2 zm l h) zg = apB zg l h := by
    unfold nextOk apB
    rw [subL2_length _ _ _ h3, subL2_length _ _ _ (by rw [← HL.out]; exact h3)]
    simp [eq_comm]
  have HOK := Lib.hid hok
  have HO4 := Lib.hid (And.intro (own_below HOP.out (by rw [hN]; exact A4)) (own_below HOM.out (by rw [hN]; exact A4)))
  clear hok r0 r1 r2 s0 s1 t0 t1 u0 u1 f0 f1
  go_wp2_with fail
  refine HNX.out.mono ?_
  intro e w5 h5
  unfold NextIs at h5
  rw [HOK.out] at h5
  by_cases hz : zg.length = h - l
  · have hb : apB zg l h = true := by unfold apB; simp [hz]
    rw [hb] at h5
    obtain ⟨v, rfl, ⟨vp, vm, rfl, onp, onm⟩, b5⟩ := h5
    obtain ⟨ms, hms⟩ : ∃ ms, ms = nextM (subL2 zm l h) zg mom q := ⟨_, rfl⟩
    rw [← hms] at onp onm
    obtain ⟨ns, hns⟩ : ∃ ns, ns = nextP (subL2 zp l h) ms rate q := ⟨_, rfl⟩
    rw [← hns] at onp
    have hml : ms.length = h - l := by
      rw [hms, nextM_length _ _ _ _ (by rw [subL2_length _ _ _ (by rw [← HL.out]; exact h3)]; exact hz.symm)]
      exact hz
    have hnl : ns.length = h - l := by
      rw [hns, nextP_length _ _ _ _ (by rw [subL2_length _ _ _ h3]; exact hml.symm)]
      exact subL2_length _ _ _ h3
    rw [hnl] at onp
    rw [hml] at onm
    have hmap : (apPo zp zm zg l h rate mom q).map (Value.int .i64) = splice (zp.map (Value.int .i64)) l (ns.map (Value.int .i64)) := by unfold apPo apP; rw [if_pos hz, splice_map, hns, hms]
    have hmam : (apMo zm zg l h mom q).map (Value.int .i64) = splice (zm.map (Value.int .i64)) l (ms.map (Value.int .i64)) := by unfold apMo apM; rw [if_pos hz, splice_map, hms]
    have HMAP := Lib.hid (And.intro hmap hmam)
    have HCA := Lib.hid (show ∀ v ∈ ns.map (Value.int .i64), v.oneCell' = true from by intro v hv; simp only [List.mem_map] at hv; obtain ⟨z, _, rfl⟩ := hv; rfl)
    have HCB := Lib.hid (show ∀ v ∈ ms.map (Value.int .i64), v.oneCell' = true from by intro v hv; simp only [List.mem_map] at hv; obtain ⟨z, _, rfl⟩ := hv; rfl)
    have HLA := Lib.hid (show (ns.map (Value.int .i64)).length = h - l from by rw [List.length_map]; exact hnl)
    have HLB := Lib.hid (show (ms.map (Value.int .i64)).length = h - l from by rw [List.length_map]; exact hml)
    clear hms hns hml hnl hmap hmam hz
    generalize ns.map (Value.int .i64) = nvs at *
    generalize ms.map (Value.int .i64) = mvs at *
    obtain ⟨an, cn, rfl⟩ := own_value onp
    obtain ⟨an', cn', rfl⟩ := own_value onm
    have al5 := (Below.refl w5.heap.size w5).alloc (Nat.le_refl _) (.cells #[.slice an (h - l) cn, .slice an' (h - l) cn'] 31)
    have x01 := cells_two w5 (.slice an (h - l) cn) (.slice an' (h - l) cn') 31
    have x5 := below_step b5 al5
    have B5 := A4.trans (x5.mono (by have := A4.size; omega))
    have u0 := cell_step x5 u0'
    have u1 := cell_step x5 u1'
    obtain ⟨y0, y1⟩ := x01
    have OP5 := Lib.hid (own_below HO4.out.1 x5)
    have OM5 := Lib.hid (own_below HO4.out.2 x5)
    have ONP := Lib.hid (own_below onp al5)
    have ONM := Lib.hid (own_below onm al5)
    have HBL := Lib.hid B5
    have hzz : NN + 4 ≤ w5.heap.size := by have := b5.size; omega
    have hz4' : NN + 4 ≤ W4.heap.size := by omega
    clear u0' u1' b5 al5 x5 B5 onp onm
    have hsz : (Try.prog.info? 2).map (·.size) = some 1 := by kernel_rfl
    have OPL : ∀ j, (Value.slice ap zp.length cp).ownBlock = some j → j < NN := fun j e => by have := (HOP.out.lt j e).2; omega
    obtain ⟨w6, hrun6, ho6, hg6⟩ := run_copy_part (P := Try.prog) _ 29 29 3 2 Try.underlying29 hsz dp an (h - l) dc cn (off := l) OP5.out nvs HLA.out (fun h0 => by
      obtain ⟨g', e1, e2⟩ := HPOSP.out h0
      subst e1
      exact ⟨g', cp, rfl, e2, copy_src ONP.out h0⟩) (by omega) HCA.out
    have gne6 : ∀ j, NN ≤ j → (Value.slice ap zp.length cp).ownBlock ≠ some j := fun j hj e => absurd (OPL j e) (by omega)
    have c1 := (cell_apart (g := NN + 3) (o := 1) hg6 (World.block_lt_of_cell? _ _ u1) (gne6 _ (by omega))).trans u1
    have d1 := (cell_apart (g := w5.heap.size) (o := 1) hg6 (World.block_lt_of_cell? _ _ y1) (gne6 _ (by omega))).trans y1
    have OM6 := row_apart OM5.out hg6 HPM.out
    have ONM6 := row_apart ONM.out hg6 (fun j e e2 => gne6 j (by have := (ONM.out.lt j e2).1; omega) e)
    obtain ⟨w7, hrun7, ho7, hg7⟩ := run_copy_part (P := Try.prog) w6 29 29 3 2 Try.underlying29 hsz dm an' (h - l) ec cn' (off := l) OM6 mvs HLB.out (fun h0 => by
      obtain ⟨g', e1, e2⟩ := HPOSM.out h0
      subst e1
      exact ⟨g', cm, rfl, e2, copy_src ONM6 h0⟩) (by have := HL.out; omega) HCB.out
    have HFI := Lib.hid (And.intro (row_apart ho6 hg7 (fun j e e2 => HPM.out j e2 e)) (And.intro ho7 (And.intro (grown_trans (grown_below (by rw [hN]; exact HBL.out) _) hg6 : w.grownBy w6 _) hg7)))
    clear ho6 hg6 ho7 hg7 OM6 ONM6 gne6 OPL hsz
    go_wp2_with fail
    go_ret
    unfold AppliedTo
    rw [hb, HMAP.out.1, HMAP.out.2]
    exact ⟨rfl, HFI.out.1, HFI.out.2.1, w6, HFI.out.2.2.1, HFI.out.2.2.2⟩
  · have hb : apB zg l h = false := by unfold apB; simp [hz]
    rw [hb] at h5
    obtain ⟨rfl, b5⟩ := h5
    have e1 : apPo zp zm zg l h rate mom q = zp := by unfold apPo; rw [if_neg hz]
    have e2 : apMo zm zg l h mom q = zm := by unfold apMo; rw [if_neg hz]
    have al5 := (Below.refl w5.heap.size w5).alloc (Nat.le_refl _) (.cells #[.slice none 0 0, .slice none 0 0] 31)
    have x5 := below_step b5 al5
    have B5 := A4.trans (x5.mono (by have := A4.size; omega))
    have HF := Lib.hid (And.intro (own_below HO4.out.1 x5) (And.intro (own_below HO4.out.2 x5) B5))
    clear x5 B5 al5 b5
    go_wp2_with fail
    go_ret
    unfold AppliedTo
    rw [e1, e2, hb]
    exact ⟨rfl, HF.out.1, HF.out.2.1, _, grown_below (by rw [hN]; exact HF.out.2.2) _, grown_below (Below.refl _ _) _⟩
def apPr (zp zm zg : List Int) (lo hi rate mom q : Int) : List Int := if applyOk zp zm zg lo hi then apP zp zm zg lo.toNat hi.toNat rate mom q else zp
def apMr (zp zm zg : List Int) (lo hi mom q : Int) : List Int := if applyOk zp zm zg lo hi then apM zm zg lo.toNat hi.toNat mom q else zm
theorem apply_any (rate mom q lo hi : Int) (p m g : Value) (zp zm zg : List Int) (base : Nat) (hr : Word rate) (ho : Word mom) (wp_ : ∀ z ∈ zp, Word z) (wm_ : ∀ z ∈ zm, Word z) (hp : zp.length * 8 ≤ 140737488351232) (hm : zm.length * 8 ≤ 140737488351232) (hg : zg.length * 8 ≤ 140737488351232) (w : World) (op : w.ownsRow base 2 1 p zp.length (zp.map (Value.int .i64))) (om : w.ownsRow base 2 1 m zm.length (zm.map (Value.int .i64))) (pm : ∀ k, p.ownBlock = some k → m.ownBlock ≠ some k) (ig : IntsW .i64 w.heap.size w g zg) :
    Calls Try.prog 16 #[.agg #[.int .i64 rate, .int .i64 mom, .int .i64 q], .agg #[p, m], .agg #[.int .i64 lo, .int .i64 hi], g] w (AppliedTo base p m zp.length zm.length (applyOk zp zm zg lo hi) (apPr zp zm zg lo hi rate mom q) (apMr zp zm zg lo hi mom q) w) := by
  by_cases h1 : zp.length = zm.length ∧ 0 ≤ lo ∧ lo ≤ hi ∧ hi ≤ (zp.length : Int)
  · obtain ⟨h1, h2, h3, h4⟩ := h1
    obtain ⟨l, rfl⟩ := Int.eq_ofNat_of_zero_le h2
    obtain ⟨h, rfl⟩ := Int.eq_ofNat_of_zero_le (show 0 ≤ hi by omega)
    have X := apply_in rate mom q l h p m g zp zm zg base hr ho wp_ wm_ hp hm hg w op om pm ig h1 (by omega) (by omega)
    have e : applyOk zp zm zg (l : Int) (h : Int) = apB zg l h := by
      unfold applyOk apB
      rw [decide_eq_decide]
      constructor
      · rintro ⟨_, _, _, _, h5⟩
        omega
      · intro h5
        exact ⟨h1, by omega, by omega, by omega, by omega⟩
    have e1 : apPr zp zm zg (l : Int) (h : Int) rate mom q = apPo zp zm zg l h rate mom q := by
      unfold apPr apPo
      rw [e]
      unfold apB
      by_cases h5 : zg.length = h - l <;> simp [h5]
    have e2 : apMr zp zm zg (l : Int) (h : Int) mom q = apMo zm zg l h mom q := by
      unfold apMr apMo
      rw [e]
      unfold apB
      by_cases h5 : zg.length = h - l <;> simp [h5]
    rw [e, e1, e2]
    exact X
  · have e : applyOk zp zm zg lo hi = false := by
      unfold applyOk
      rw [decide_eq_false_iff_not]
      rintro ⟨k1, k2, k3, k4, _⟩
      exact h1 ⟨k1, k2, k3, k4⟩
    have e1 : apPr zp zm zg lo hi rate mom q = zp := by unfold apPr; rw [e]; rfl
    have e2 : apMr zp zm zg lo hi mom q = zm := by unfold apMr; rw [e]; rfl
    rw [e, e1, e2]
    exact apply_guard rate mom q lo hi p m g zp zm zg base w op om ig (by omega)
end Go.Proofs.Ytmffgbmjomaehaa
