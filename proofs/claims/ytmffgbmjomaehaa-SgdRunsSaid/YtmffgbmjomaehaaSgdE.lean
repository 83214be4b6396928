/- The reference's Apply. -/
import Derived.Test.YtmffgbmjomaehaaSgdB
namespace Go.Proofs.Ytmffgbmjomaehaa
open Go.RowKit
set_option linter.unusedVariables false
/-- what the reference gives: a state whose lists are the ones of Apply, and whether there is one -/
def RefApplied (ok : Bool) (zp zm : List Int) (w : World) (e : Ending) (w' : World) : Prop :=
  ∃ v u, e = .returned (.tuple #[.agg #[v, u], .bool ok]) ∧ IntsW .i64 w'.heap.size w' v zp ∧ IntsW .i64 w'.heap.size w' u zm ∧ Below w.heap.size w w'
theorem cut_w (a : Option Addr) (n cap l h : Nat) (zs : List Int) (hn : n = zs.length) {w : World} (hi : IntsW .i64 w.heap.size w (.slice a n cap) zs) (hl : l ≤ h) (hh : h ≤ n) :
    ∃ dp dc, cutv a l h cap 1 = .slice dp (h - l) dc ∧ (∀ W, (Instr.slice 24 (.slice a n cap) (some (.int .i64 (l : Int))) (some (.int .i64 (h : Int))) none).run Try.prog W = .ok (.slice dp (h - l) dc) W) ∧ IntsW .i64 w.heap.size w (.slice dp (h - l) dc) (subL2 zs l h) := by
  have hc : h ≤ cap := by
    rcases hi with ⟨rfl, a', c', e⟩ | hi
    · simp at hn; omega
    · rcases hi.2 with ⟨e, e2⟩ | ⟨b, off, cap', e, hc, _⟩ <;> (injection e with e1 e2 e3; omega)
  have X : ∃ dp dc, cutv a l h cap 1 = .slice dp (h - l) dc := by
    unfold cutv sliced
    split <;> exact ⟨_, _, rfl⟩
  obtain ⟨dp, dc, e⟩ := X
  refine ⟨dp, dc, e, fun W => ?_, ?_⟩
  · have hs := run_cut_lh (P := Try.prog) (T := 24) (s := 1) Try.underlying24 (by intro W; kernel_rfl) a n cap .i64 .i64 (l : Int) (h : Int) (by omega) (by omega) (by omega) W
    simp only [Int.toNat_natCast] at hs
    rw [e] at hs
    exact hs
  · rw [← e]
    rcases hi with ⟨rfl, a', c', e0⟩ | hi
    · simp at hn
      have h0 : h = 0 := by omega
      have l0 : l = 0 := by omega
      subst h0 l0
      refine .inl ⟨by unfold subL2; simp, ?_⟩
      cases e0
      unfold cutv sliced
      by_cases hc0 : cap = 0
      · rw [if_pos hc0]; exact ⟨_, _, rfl⟩
      · rw [if_neg hc0]; exact ⟨_, _, rfl⟩
    · exact .inr (IntsAt.cut hl (by omega) hi)
theorem refApply_guard (rate mom q lo hi : Int) (p m g : Value) (zp zm zg : List Int) (w : World) (ip : IntsW .i64 w.heap.size w p zp) (im : IntsW .i64 w.heap.size w m zm) (ig : IntsW .i64 w.heap.size w g zg) (hno : zp.length ≠ zm.length ∨ (zp.length = zm.length ∧ lo < 0) ∨ (zp.length = zm.length ∧ 0 ≤ lo ∧ hi < lo) ∨ (zp.length = zm.length ∧ 0 ≤ lo ∧ lo ≤ hi ∧ (zp.length : Int) < hi)) :
    Calls Try.prog 17 #[.agg #[.int .i64 rate, .int .i64 mom, .int .i64 q], .agg #[p, m], .agg #[.int .i64 lo, .int .i64 hi], g] w (RefApplied false zp zm w) := by
  have s01 := cells_two (w.alloc (.cells #[.int .i64 rate, .int .i64 mom, .int .i64 q] 23)) p m 26
  have BC := (Below.refl ((w.alloc (.cells #[.int .i64 rate, .int .i64 mom, .int .i64 q] 23)).alloc (.cells #[p, m] 26)).heap.size ((w.alloc (.cells #[.int .i64 rate, .int .i64 mom, .int .i64 q] 23)).alloc (.cells #[p, m] 26))).alloc (Nat.le_refl _) (.cells #[.int .i64 lo, .int .i64 hi] 43)
  have BD := (Below.refl (((w.alloc (.cells #[.int .i64 rate, .int .i64 mom, .int .i64 q] 23)).alloc (.cells #[p, m] 26)).alloc (.cells #[.int .i64 lo, .int .i64 hi] 43)).heap.size (((w.alloc (.cells #[.int .i64 rate, .int .i64 mom, .int .i64 q] 23)).alloc (.cells #[p, m] 26)).alloc (.cells #[.int .i64 lo, .int .i64 hi] 43))).alloc (Nat.le_refl _) (.cells #[p, m] 26)
  have BW : Below w.heap.size w ((((w.alloc (.cells #[.int .i64 rate, .int .i64 mom, .int .i64 q] 23)).alloc (.cells #[p, m] 26)).alloc (.cells #[.int .i64 lo, .int .i64 hi] 43)).alloc (.cells #[p, m] 26)) :=
    ((((Below.refl w.heap.size w).alloc (Nat.le_refl _) _).alloc (by simp) _).alloc (by simp <;> omega) _).alloc (by simp <;> omega) _
  have HO : Hid (RefApplied false zp zm w (.returned (.tuple #[.agg #[p, m], .bool false])) ((((w.alloc (.cells #[.int .i64 rate, .int .i64 mom, .int .i64 q] 23)).alloc (.cells #[p, m] 26)).alloc (.cells #[.int .i64 lo, .int .i64 hi] 43)).alloc (.cells #[p, m] 26))) := Lib.hid ⟨_, _, rfl, ip.later BW, im.later BW, BW⟩
  obtain ⟨a1, c1, rfl⟩ := ip.value
  obtain ⟨a2, c2, rfl⟩ := im.value
  obtain ⟨a3, c3, rfl⟩ := ig.value
  clear ip im ig BW BC BD s01
  rcases hno with h1 | ⟨h1, h2⟩ | ⟨h1, h2, h3⟩ | ⟨h1, h2, h3, h4⟩
  · have g1 : ((zp.length : Int) != (zm.length : Int)) = true := by simp; omega
    clear h1
    go_enter Try.func17, Try.ntmps17
    go_wp2_with fail
    (try simp only [Exit.inBlock, Exit.then])
    refine bodyPost_ret (v := .tuple #[.agg #[.slice a1 zp.length c1, .slice a2 zm.length c2], .bool false]) (by simp [results, Try.results17, go_sem]) rfl ?_
    exact HO.out
  · have g1 : ((zp.length : Int) != (zm.length : Int)) = false := by simp [h1]
    have g2 : decide (lo < 0) = true := by simpa using h2
    clear h1
    go_enter Try.func17, Try.ntmps17
    go_wp2_with fail
    (try simp only [Exit.inBlock, Exit.then])
    refine bodyPost_ret (v := .tuple #[.agg #[.slice a1 zp.length c1, .slice a2 zm.length c2], .bool false]) (by simp [results, Try.results17, go_sem]) rfl ?_
    exact HO.out
  · have g1 : ((zp.length : Int) != (zm.length : Int)) = false := by simp [h1]
    have g2 : decide (lo < 0) = false := by simp; omega
    have g2' : ¬ lo < 0 := by omega
    have g3 : decide (hi < lo) = true := by simpa using h3
    clear h1
    go_enter Try.func17, Try.ntmps17
    go_wp2_with fail
    (try simp only [Exit.inBlock, Exit.then])
    refine bodyPost_ret (v := .tuple #[.agg #[.slice a1 zp.length c1, .slice a2 zm.length c2], .bool false]) (by simp [results, Try.results17, go_sem]) rfl ?_
    exact HO.out
  · have g1 : ((zp.length : Int) != (zm.length : Int)) = false := by simp [h1]
    have g2 : decide (lo < 0) = false := by simp; omega
    have g2' : ¬ lo < 0 := by omega
    have g3 : decide (hi < lo) = false := by simp; omega
    have g3' : ¬ hi < lo := by omega
    have g4 : decide ((zp.length : Int) < hi) = true := by simpa using h4
    clear h1
    go_enter Try.func17, Try.ntmps17
    go_wp2_with fail
    (try simp only [Exit.inBlock, Exit.then])
    refine bodyPost_ret (v := .tuple #[.agg #[.slice a1 zp.length c1, .slice a2 zm.length c2], .bool false]) (by simp [results, Try.results17, go_sem]) rfl ?_
    exact HO.out
theorem refApply_no (rate mom q : Int) (l h : Nat) (p m g : Value) (zp zm zg : List Int) (hr : Word rate) (ho : Word mom) (wm_ : ∀ z ∈ zm, Word z) (hp : zp.length * 8 ≤ 140737488351232) (hm : zm.length * 8 ≤ 140737488351232) (w : World) (ip : IntsW .i64 w.heap.size w p zp) (im : IntsW .i64 w.heap.size w m zm) (ig : IntsW .i64 w.heap.size w g zg) (h1 : zp.length = zm.length) (h2 : l ≤ h) (h3 : h ≤ zp.length) (h5 : zg.length ≠ h - l) :
    Calls Try.prog 17 #[.agg #[.int .i64 rate, .int .i64 mom, .int .i64 q], .agg #[p, m], .agg #[.int .i64 (l : Int), .int .i64 (h : Int)], g] w (RefApplied false zp zm w) := by
  have BA := (Below.refl w.heap.size w).alloc (Nat.le_refl _) (.cells #[.int .i64 rate, .int .i64 mom, .int .i64 q] 23)
  have r0 := cell_new w #[.int .i64 rate, .int .i64 mom, .int .i64 q] 23 0
  have r1 := cell_new w #[.int .i64 rate, .int .i64 mom, .int .i64 q] 23 1
  have r2 := cell_new w #[.int .i64 rate, .int .i64 mom, .int .i64 q] 23 2
  simp only [List.getElem?_toArray, List.getElem?_cons_zero, List.getElem?_cons_succ] at r0 r1 r2
  obtain ⟨a1, c1, rfl⟩ := ip.value
  obtain ⟨a2, c2, rfl⟩ := im.value
  obtain ⟨a3, c3, rfl⟩ := ig.value
  obtain ⟨WA, hWA⟩ : ∃ WA, WA = w.alloc (.cells #[.int .i64 rate, .int .i64 mom, .int .i64 q] 23) := ⟨_, rfl⟩
  have hzA : WA.heap.size = w.heap.size + 1 := by rw [hWA]; simp
  rw [← hWA] at r0 r1 r2 BA
  have BB := (Below.refl WA.heap.size WA).alloc (Nat.le_refl _) (.cells #[.slice a1 zp.length c1, .slice a2 zm.length c2] 26)
  have s01 := cells_two WA (.slice a1 zp.length c1) (.slice a2 zm.length c2) 26
  obtain ⟨WB, hWB⟩ : ∃ WB, WB = WA.alloc (.cells #[.slice a1 zp.length c1, .slice a2 zm.length c2] 26) := ⟨_, rfl⟩
  have hzB : WB.heap.size = w.heap.size + 2 := by rw [hWB]; simp [hzA]
  rw [← hWB] at s01 BB
  have BC := (Below.refl WB.heap.size WB).alloc (Nat.le_refl _) (.cells #[.int .i64 (l : Int), .int .i64 (h : Int)] 43)
  have t01 := cells_two WB (.int .i64 (l : Int)) (.int .i64 (h : Int)) 43
  obtain ⟨WC, hWC⟩ : ∃ WC, WC = WB.alloc (.cells #[.int .i64 (l : Int), .int .i64 (h : Int)] 43) := ⟨_, rfl⟩
  have hzC : WC.heap.size = w.heap.size + 3 := by rw [hWC]; simp [hzB]
  rw [← hWC] at t01 BC
  have BD := (Below.refl WC.heap.size WC).alloc (Nat.le_refl _) (.cells #[.slice none 0 0, .slice none 0 0] 26)
  have q01 := cells_two WC (.slice none 0 0) (.slice none 0 0) 26
  have qf := World.frozen?_alloc_new WC #[.slice none 0 0, .slice none 0 0] 26
  have hzD : (WC.alloc (.cells #[.slice none 0 0, .slice none 0 0] 26)).heap.size = w.heap.size + 4 := by simp [hzC]
  have r0 := cell_step BD (cell_step BC (cell_step BB r0))
  have r1 := cell_step BD (cell_step BC (cell_step BB r1))
  have r2 := cell_step BD (cell_step BC (cell_step BB r2))
  have s0 := cell_step BD (cell_step BC s01.1)
  have s1 := cell_step BD (cell_step BC s01.2)
  have t0 := cell_step BD t01.1
  have t1 := cell_step BD t01.2
  have q0 := q01.1
  have q1 := q01.2
  have qf0 := qf 0
  have qf1 := qf 1
  have AL := ((BA.trans (BB.mono (by omega))).trans (BC.mono (by omega))).trans (BD.mono (by omega))
  rw [hzA] at s0 s1
  rw [hzB] at t0 t1
  rw [hzC] at q0 q1 qf0 qf1
  subst hWC
  subst hWB
  subst hWA
  have g1 : ((zp.length : Int) != (zm.length : Int)) = false := by simp [h1]
  have g2 : decide ((l : Int) < 0) = false := by simp
  have g2' : ¬ (l : Int) < 0 := by omega
  have g3 : decide ((h : Int) < (l : Int)) = false := by simp; omega
  have g3' : ¬ (h : Int) < (l : Int) := by omega
  have g3'' : decide (h < l) = false := by simp; omega
  have g4 : decide ((zp.length : Int) < (h : Int)) = false := by simp; omega
  have g4' : decide (zp.length < h) = false := by simp; omega
  have hw5 : wrap64 ((h : Int) - (l : Int)) = ((h - l : Nat) : Int) := by unfold wrap64; omega
  have g5 : ((zg.length : Int) != ((h : Int) - (l : Int))) = true := by simp; omega
  have g5' : ((zg.length : Int) != ((h - l : Nat) : Int)) = true := by simp; omega
  have BW : Below w.heap.size w ((((w.alloc (.cells #[.int .i64 rate, .int .i64 mom, .int .i64 q] 23)).alloc (.cells #[.slice a1 zp.length c1, .slice a2 zm.length c2] 26)).alloc (.cells #[.int .i64 (l : Int), .int .i64 (h : Int)] 43)).alloc (.cells #[.slice a1 zp.length c1, .slice a2 zm.length c2] 26)) :=
    ((((Below.refl w.heap.size w).alloc (Nat.le_refl _) _).alloc (by simp) _).alloc (by simp <;> omega) _).alloc (by simp <;> omega) _
  have HO : Hid (RefApplied false zp zm w (.returned (.tuple #[.agg #[.slice a1 zp.length c1, .slice a2 zm.length c2], .bool false])) ((((w.alloc (.cells #[.int .i64 rate, .int .i64 mom, .int .i64 q] 23)).alloc (.cells #[.slice a1 zp.length c1, .slice a2 zm.length c2] 26)).alloc (.cells #[.int .i64 (l : Int), .int .i64 (h : Int)] 43)).alloc (.cells #[.slice a1 zp.length c1, .slice a2 zm.length c2] 26))) := Lib.hid ⟨_, _, rfl, ip.later BW, im.later BW, BW⟩
  clear BA BB BC BD s01 t01 q01 qf hzA hzB hzC hzD ip im ig h1 BW AL r0 r1 r2 s0 s1 t0 t1 q0 q1 qf0 qf1
  go_enter Try.func17, Try.ntmps17
  go_wp2_with fail
  (try simp only [Exit.inBlock, Exit.then])
  refine bodyPost_ret (v := .tuple #[.agg #[.slice a1 zp.length c1, .slice a2 zm.length c2], .bool false]) (by simp [results, Try.results17, go_sem]) rfl ?_
  exact HO.out
theorem splice_step {α : Type} (z y : List α) (l k : Nat) (x : α) (hx : y[k]? = some x) (hl : l + y.length ≤ z.length) : (splice z l (y.take k)).set (l + k) x = splice z l (y.take (k + 1)) := by
  have hk : k < y.length := by
    apply Nat.lt_of_not_le
    intro h
    rw [List.getElem?_eq_none h] at hx
    cases hx
  unfold splice
  apply List.ext_getElem?
  intro j
  simp only [List.getElem?_set, List.getElem?_append, List.getElem?_take, List.getElem?_drop, List.length_take, List.length_append, List.length_drop]
  grind
set_option maxHeartbeats 8000000 in
theorem refApply_yes (rate mom q : Int) (l h : Nat) (p m g : Value) (zp zm zg : List Int) (hr : Word rate) (ho : Word mom) (wm_ : ∀ z ∈ zm, Word z) (hp : zp.length * 8 ≤ 140737488351232) (hm : zm.length * 8 ≤ 140737488351232) (w : World) (ip : IntsW .i64 w.heap.size w p zp) (im : IntsW .i64 w.heap.size w m zm) (ig : IntsW .i64 w.heap.size w g zg) (h1 : zp.length = zm.length) (h2 : l ≤ h) (h3 : h ≤ zp.length) (h5 : zg.length = h - l) :
    Calls Try.prog 17 #[.agg #[.int .i64 rate, .int .i64 mom, .int .i64 q], .agg #[p, m], .agg #[.int .i64 (l : Int), .int .i64 (h : Int)], g] w (RefApplied true (apP zp zm zg l h rate mom q) (apM zm zg l h mom q) w) := by
  have BA := (Below.refl w.heap.size w).alloc (Nat.le_refl _) (.cells #[.int .i64 rate, .int .i64 mom, .int .i64 q] 23)
  have r0 := cell_new w #[.int .i64 rate, .int .i64 mom, .int .i64 q] 23 0
  have r1 := cell_new w #[.int .i64 rate, .int .i64 mom, .int .i64 q] 23 1
  have r2 := cell_new w #[.int .i64 rate, .int .i64 mom, .int .i64 q] 23 2
  simp only [List.getElem?_toArray, List.getElem?_cons_zero, List.getElem?_cons_succ] at r0 r1 r2
  obtain ⟨a1, c1, rfl⟩ := ip.value
  obtain ⟨a2, c2, rfl⟩ := im.value
  obtain ⟨a3, c3, rfl⟩ := ig.value
  obtain ⟨WA, hWA⟩ : ∃ WA, WA = w.alloc (.cells #[.int .i64 rate, .int .i64 mom, .int .i64 q] 23) := ⟨_, rfl⟩
  have hzA : WA.heap.size = w.heap.size + 1 := by rw [hWA]; simp
  rw [← hWA] at r0 r1 r2 BA
  have BB := (Below.refl WA.heap.size WA).alloc (Nat.le_refl _) (.cells #[.slice a1 zp.length c1, .slice a2 zm.length c2] 26)
  have s01 := cells_two WA (.slice a1 zp.length c1) (.slice a2 zm.length c2) 26
  obtain ⟨WB, hWB⟩ : ∃ WB, WB = WA.alloc (.cells #[.slice a1 zp.length c1, .slice a2 zm.length c2] 26) := ⟨_, rfl⟩
  have hzB : WB.heap.size = w.heap.size + 2 := by rw [hWB]; simp [hzA]
  rw [← hWB] at s01 BB
  have BC := (Below.refl WB.heap.size WB).alloc (Nat.le_refl _) (.cells #[.int .i64 (l : Int), .int .i64 (h : Int)] 43)
  have t01 := cells_two WB (.int .i64 (l : Int)) (.int .i64 (h : Int)) 43
  obtain ⟨WC, hWC⟩ : ∃ WC, WC = WB.alloc (.cells #[.int .i64 (l : Int), .int .i64 (h : Int)] 43) := ⟨_, rfl⟩
  have hzC : WC.heap.size = w.heap.size + 3 := by rw [hWC]; simp [hzB]
  rw [← hWC] at t01 BC
  have BD := (Below.refl WC.heap.size WC).alloc (Nat.le_refl _) (.cells #[.slice none 0 0, .slice none 0 0] 26)
  have q01 := cells_two WC (.slice none 0 0) (.slice none 0 0) 26
  have qf := World.frozen?_alloc_new WC #[.slice none 0 0, .slice none 0 0] 26
  have hzD : (WC.alloc (.cells #[.slice none 0 0, .slice none 0 0] 26)).heap.size = w.heap.size + 4 := by simp [hzC]
  have r0 := cell_step BD (cell_step BC (cell_step BB r0))
  have r1 := cell_step BD (cell_step BC (cell_step BB r1))
  have r2 := cell_step BD (cell_step BC (cell_step BB r2))
  have s0 := cell_step BD (cell_step BC s01.1)
  have s1 := cell_step BD (cell_step BC s01.2)
  have t0 := cell_step BD t01.1
  have t1 := cell_step BD t01.2
  have q0 := q01.1
  have q1 := q01.2
  have qf0 := qf 0
  have qf1 := qf 1
  have AL := ((BA.trans (BB.mono (by omega))).trans (BC.mono (by omega))).trans (BD.mono (by omega))
  rw [hzA] at s0 s1
  rw [hzB] at t0 t1
  rw [hzC] at q0 q1 qf0 qf1
  subst hWC
  subst hWB
  subst hWA
  have g1 : ((zp.length : Int) != (zm.length : Int)) = false := by simp [h1]
  have g2 : decide ((l : Int) < 0) = false := by simp
  have g2' : ¬ (l : Int) < 0 := by omega
  have g3 : decide ((h : Int) < (l : Int)) = false := by simp; omega
  have g3' : ¬ (h : Int) < (l : Int) := by omega
  have g3'' : decide (h < l) = false := by simp; omega
  have g4 : decide ((zp.length : Int) < (h : Int)) = false := by simp; omega
  have g4' : decide (zp.length < h) = false := by simp; omega
  have hw5 : wrap64 ((h : Int) - (l : Int)) = ((h - l : Nat) : Int) := by unfold wrap64; omega
  have g5 : ((zg.length : Int) != ((h : Int) - (l : Int))) = false := by simp; omega
  have g5' : ((zg.length : Int) != ((h - l : Nat) : Int)) = false := by simp; omega
  obtain ⟨ms, hms⟩ : ∃ ms, ms = nextM (subL2 zm l h) zg mom q := ⟨_, rfl⟩
  obtain ⟨ns, hns⟩ : ∃ ns, ns = nextP (subL2 zp l h) ms rate q := ⟨_, rfl⟩
  have hml : ms.length = h - l := by
    rw [hms, nextM_length _ _ _ _ (by rw [subL2_length _ _ _ (by omega)]; exact h5.symm)]
    exact h5
  have hnl : ns.length = h - l := by
    rw [hns, nextP_length _ _ _ _ (by rw [subL2_length _ _ _ h3]; exact hml.symm)]
    exact subL2_length _ _ _ h3
  obtain ⟨dp, dc, hcutp, hsp, hip⟩ := cut_w a1 zp.length c1 l h zp rfl ip h2 h3
  obtain ⟨dm, ec, hcutm, hsm, him⟩ := cut_w a2 zm.length c2 l h zm rfl im h2 (by omega)
  have hok : nextOk (subL2 zp l h) (subL2 zm l h) zg = true := by
    unfold nextOk
    rw [subL2_length _ _ _ h3, subL2_length _ _ _ (by omega)]
    simp [h5]
  have HNX := Lib.hid (fun W (b : Below w.heap.size w W) => (show Calls Try.prog 13 #[.agg #[.int .i64 rate, .int .i64 mom, .int .i64 q], .agg #[.slice dp (h - l) dc, .slice dm (h - l) ec], .slice a3 zg.length c3] W (fun e w' => ∃ an cn an' cn', e = .returned (.tuple #[.agg #[.slice an (h - l) cn, .slice an' (h - l) cn'], .bool true]) ∧ w'.ownsRow W.heap.size 2 1 (.slice an (h - l) cn) (h - l) (ns.map (Value.int .i64)) ∧ w'.ownsRow W.heap.size 2 1 (.slice an' (h - l) cn') (h - l) (ms.map (Value.int .i64)) ∧ Below W.heap.size W w') from by
    refine (refNext_any rate mom q hr ho (.slice dp (h - l) dc) (.slice dm (h - l) ec) (.slice a3 zg.length c3) (subL2 zp l h) (subL2 zm l h) zg (fun z hz => wm_ z (List.mem_of_mem_take (List.mem_of_mem_drop hz))) (by rw [subL2_length _ _ _ h3]; omega) W (hip.later b) (him.later b) (ig.later b)).mono ?_
    intro e w' hn
    unfold NextIs at hn
    rw [hok, if_pos rfl, ← hms, ← hns] at hn
    obtain ⟨v, rfl, ⟨vp, vm, rfl, op, om⟩, b5⟩ := hn
    rw [hnl] at op
    rw [hml] at om
    obtain ⟨an, cn, rfl⟩ := own_value op
    obtain ⟨an', cn', rfl⟩ := own_value om
    exact ⟨an, cn, an', cn', rfl, op, om, b5⟩))
  have HCP := Lib.hid (fun W (b : Below w.heap.size w W) => refClone_any (.slice a1 zp.length c1) zp hp w.heap.size W (ip.below b))
  have HCM := Lib.hid (fun W (b : Below w.heap.size w W) => refClone_any (.slice a2 zm.length c2) zm hm w.heap.size W (im.below b))
  have HRES := Lib.hid (show (splice zp l ns = apP zp zm zg l h rate mom q) ∧ splice zm l ms = apM zm zg l h mom q from by unfold apP apM; rw [hns, hms]; exact ⟨rfl, rfl⟩)
  have HNL := Lib.hid hnl
  have HML := Lib.hid hml
  have HLM := Lib.hid h1
  have hgl : zg.length ≤ h - l ∧ h - l ≤ zg.length := by omega
  clear BA BB BC BD s01 t01 q01 qf hzA hzB hzC ip im ig h1 hcutp hcutm hip him hok hns hms hnl hml h5
  go_enter Try.func17, Try.ntmps17
  go_wp2_with fail
  generalize ((((w.alloc (.cells #[.int .i64 rate, .int .i64 mom, .int .i64 q] 23)).alloc (.cells #[.slice a1 zp.length c1, .slice a2 zm.length c2] 26)).alloc (.cells #[.int .i64 (l : Int), .int .i64 (h : Int)] 43)).alloc (.cells #[.slice none 0 0, .slice none 0 0] 26)) = W0 at *
  generalize hN : w.heap.size = NN at *
  clear g1 g2 g2' g3 g3' g3'' g4 g4' g5 g5' hw5
  refine (fun (TAIL : Hid (?G : Prop)) => ?main) (Lib.hid ?tail)
  case main =>
    refine wp_region_held_drew (S := fun w' => w'.cell? ⟨NN, 0, none⟩ = some (.int .i64 rate) ∧ w'.cell? ⟨NN, 1, none⟩ = some (.int .i64 mom) ∧ w'.cell? ⟨NN, 2, none⟩ = some (.int .i64 q) ∧ w'.cell? ⟨NN + 1, 0, none⟩ = some (.slice a1 zp.length c1) ∧ w'.cell? ⟨NN + 1, 1, none⟩ = some (.slice a2 zm.length c2) ∧ w'.cell? ⟨NN + 2, 0, none⟩ = some (.int .i64 (l : Int)) ∧ w'.cell? ⟨NN + 2, 1, none⟩ = some (.int .i64 (h : Int)) ∧ Below W0.heap.size W0 w') (by kernel_rfl) ?_ (fun hHeld => ?_)
    · exact ⟨r0, r1, r2, s0, s1, t0, t1, (Below.refl _ _).drew⟩
    have B00 := (Below.refl W0.heap.size W0).drew
    refine wpAnyH_take (i := 0) (v := ?v1) rfl (by kernel_rfl) (by kernel_rfl) (by kernel_rfl) (fun _ _ _ h => h) (Or.inl ⟨by rfl, ?hy1⟩) (by assumption) ?rest1
    case hy1 => (intro w hSw; (try dsimp only at hSw); go_simp; (first | done | with_reducible rfl))
    simp only [Act.put, List.setIfInBounds_toArray, List.set_cons_zero, List.set_cons_succ, List.getElem_toArray, List.getElem_cons_zero]
    refine wpAnyH_take (i := 1) (v := ?v2) rfl (by kernel_rfl) (by kernel_rfl) (by kernel_rfl) (fun _ _ _ h => h) (Or.inl ⟨by rfl, ?hy2⟩) (by assumption) ?rest2
    case hy2 => (intro w hSw; (try dsimp only at hSw); go_simp; (first | done | with_reducible rfl))
    simp only [Act.put, List.setIfInBounds_toArray, List.set_cons_zero, List.set_cons_succ, List.getElem_toArray, List.getElem_cons_zero, List.getElem_cons_succ]
    refine wpAnyH_take (i := 2) (v := ?v3) rfl (by kernel_rfl) (by kernel_rfl) (by kernel_rfl) (fun _ _ _ h => h) (Or.inl ⟨by rfl, ?hy3⟩) (by assumption) ?rest3
    case hy3 => (intro w hSw; (try dsimp only at hSw); go_simp; (first | done | with_reducible rfl))
    simp only [Act.put, List.setIfInBounds_toArray, List.set_cons_zero, List.set_cons_succ, List.getElem_toArray, List.getElem_cons_zero, List.getElem_cons_succ]
    refine wpAnyH_take (i := 3) (v := ?v4) rfl (by kernel_rfl) (by kernel_rfl) (by kernel_rfl) (fun _ _ _ h => h) (Or.inl ⟨by rfl, ?hy4⟩) (by assumption) ?rest4
    case hy4 => (intro w hSw; (try dsimp only at hSw); go_simp; (first | done | with_reducible rfl))
    simp only [Act.put, List.setIfInBounds_toArray, List.set_cons_zero, List.set_cons_succ, List.getElem_toArray, List.getElem_cons_zero, List.getElem_cons_succ]
    refine wpAnyH_take (i := 4) (v := ?v5) rfl (by kernel_rfl) (by kernel_rfl) (by kernel_rfl) (fun _ _ _ h => h) (Or.inl ⟨by rfl, ?hy5⟩) (by assumption) ?rest5
    case hy5 => (intro w hSw; (try dsimp only at hSw); go_simp; (first | done | with_reducible rfl))
    simp only [Act.put, List.setIfInBounds_toArray, List.set_cons_zero, List.set_cons_succ, List.getElem_toArray, List.getElem_cons_zero, List.getElem_cons_succ]
    refine wpAnyH_take (i := 5) (v := ?v6) rfl (by kernel_rfl) (by kernel_rfl) (by kernel_rfl) (fun _ _ _ h => h) (Or.inl ⟨by rfl, ?hy6⟩) (by assumption) ?rest6
    case hy6 => (intro w hSw; (try dsimp only at hSw); go_simp; (first | done | with_reducible rfl))
    simp only [Act.put, List.setIfInBounds_toArray, List.set_cons_zero, List.set_cons_succ, List.getElem_toArray, List.getElem_cons_zero, List.getElem_cons_succ]
    refine wpAnyH_take (i := 6) (v := ?v7) rfl (by kernel_rfl) (by kernel_rfl) (by kernel_rfl) (fun _ _ _ h => h) (Or.inl ⟨by rfl, ?hy7⟩) (by assumption) ?rest7
    case hy7 => (intro w hSw; (try dsimp only at hSw); go_simp; (first | done | with_reducible rfl))
    simp only [Act.put, List.setIfInBounds_toArray, List.set_cons_zero, List.set_cons_succ, List.getElem_toArray, List.getElem_cons_zero, List.getElem_cons_succ]
    refine wpAnyH_take (i := 7) (v := ?v8) rfl (by kernel_rfl) (by kernel_rfl) (by kernel_rfl) (fun _ _ _ h => h) (Or.inl ⟨by rfl, ?hy8⟩) (by assumption) ?rest8
    case hy8 => (intro w hSw; (try dsimp only at hSw); go_simp; (first | done | with_reducible rfl))
    simp only [Act.put, List.setIfInBounds_toArray, List.set_cons_zero, List.set_cons_succ, List.getElem_toArray, List.getElem_cons_zero, List.getElem_cons_succ]
    refine wpAnyH_take (i := 8) (v := ?v9) rfl (by kernel_rfl) (by kernel_rfl) (by kernel_rfl) (fun _ _ _ h => h) (Or.inl ⟨by rfl, ?hy9⟩) (by assumption) ?rest9
    case hy9 => (intro w hSw; (try dsimp only at hSw); go_simp; (first | done | with_reducible rfl))
    simp only [Act.put, List.setIfInBounds_toArray, List.set_cons_zero, List.set_cons_succ, List.getElem_toArray, List.getElem_cons_zero, List.getElem_cons_succ]
    refine wpAnyH_take (i := 9) (v := ?v10) rfl (by kernel_rfl) (by kernel_rfl) (by kernel_rfl) (fun _ _ _ h => h) (Or.inl ⟨by rfl, ?hy10⟩) (by assumption) ?rest10
    case hy10 => (intro w hSw; (try dsimp only at hSw); go_simp; (first | done | with_reducible rfl))
    simp only [Act.put, List.setIfInBounds_toArray, List.set_cons_zero, List.set_cons_succ, List.getElem_toArray, List.getElem_cons_zero, List.getElem_cons_succ]
    refine wpAnyH_take (i := 10) (v := ?v11) rfl (by kernel_rfl) (by kernel_rfl) (by kernel_rfl) (fun _ _ _ h => h) (Or.inl ⟨by rfl, ?hy11⟩) (by assumption) ?rest11
    case hy11 => (intro w hSw; (try dsimp only at hSw); go_simp; (first | done | with_reducible rfl))
    simp only [Act.put, List.setIfInBounds_toArray, List.set_cons_zero, List.set_cons_succ, List.getElem_toArray, List.getElem_cons_zero, List.getElem_cons_succ]
    refine wpAnyH_take (i := 11) (v := ?v12) rfl (by kernel_rfl) (by kernel_rfl) (by kernel_rfl) (fun _ _ _ h => h) (Or.inl ⟨by rfl, ?hy12⟩) (by assumption) ?rest12
    case hy12 => (intro w hSw; (try dsimp only at hSw); go_simp; (first | done | with_reducible rfl))
    simp only [Act.put, List.setIfInBounds_toArray, List.set_cons_zero, List.set_cons_succ, List.getElem_toArray, List.getElem_cons_zero, List.getElem_cons_succ]
    refine wpAnyH_take (i := 12) (v := ?v13) rfl (by kernel_rfl) (by kernel_rfl) (by kernel_rfl) (fun _ _ _ h => h) (Or.inl ⟨by rfl, ?hy13⟩) (by assumption) ?rest13
    case hy13 => (intro w hSw; (try dsimp only at hSw); go_simp; (first | done | with_reducible rfl))
    simp only [Act.put, List.setIfInBounds_toArray, List.set_cons_zero, List.set_cons_succ, List.getElem_toArray, List.getElem_cons_zero, List.getElem_cons_succ]
    refine wpAnyH_take (i := 13) (v := ?v14) rfl (by kernel_rfl) (by kernel_rfl) (by kernel_rfl) (fun _ _ _ h => h) (Or.inl ⟨by rfl, ?hy14⟩) (by assumption) ?rest14
    case hy14 => (intro w hSw; (try dsimp only at hSw); go_simp; (first | done | with_reducible rfl))
    simp only [Act.put, List.setIfInBounds_toArray, List.set_cons_zero, List.set_cons_succ, List.getElem_toArray, List.getElem_cons_zero, List.getElem_cons_succ]
    refine wpAnyH_take (i := 14) (v := ?v15) rfl (by kernel_rfl) (by kernel_rfl) (by kernel_rfl) (fun _ _ _ h => h) (Or.inl ⟨by rfl, ?hy15⟩) (by assumption) ?rest15
    case hy15 => (intro w hSw; (try dsimp only at hSw); go_simp; (first | done | with_reducible rfl))
    simp only [Act.put, List.setIfInBounds_toArray, List.set_cons_zero, List.set_cons_succ, List.getElem_toArray, List.getElem_cons_zero, List.getElem_cons_succ]
    refine wpAnyH_take (i := 15) (v := ?v16) rfl (by kernel_rfl) (by kernel_rfl) (by kernel_rfl) (fun _ _ _ h => h) (Or.inl ⟨by rfl, ?hy16⟩) (by assumption) ?rest16
    case hy16 => (intro w hSw; (try dsimp only at hSw); go_simp; (first | done | with_reducible rfl))
    simp only [Act.put, List.setIfInBounds_toArray, List.set_cons_zero, List.set_cons_succ, List.getElem_toArray, List.getElem_cons_zero, List.getElem_cons_succ]
    refine wpAnyH_take (i := 16) (v := ?v17) rfl (by kernel_rfl) (by kernel_rfl) (by kernel_rfl) (fun _ _ _ h => h) (Or.inl ⟨by rfl, ?hy17⟩) (by assumption) ?rest17
    case hy17 => (intro w hSw; (try dsimp only at hSw); go_simp; (first | done | with_reducible rfl))
    simp only [Act.put, List.setIfInBounds_toArray, List.set_cons_zero, List.set_cons_succ, List.getElem_toArray, List.getElem_cons_zero, List.getElem_cons_succ]
    refine wpAnyH_ready (rs := [17, 21]) (by kernel_rfl) (by simp) ?_
    refine AllReadyH.cons rfl (fun K hK => ?_) ?_
    · try simp only [Act.put, List.setIfInBounds_toArray, List.set_cons_zero, List.set_cons_succ, List.getElem_toArray, List.getElem_cons_zero, List.getElem_cons_succ]
      go_simp
      go_at_call 13
      refine (HNX.out _ (AL.trans (B00.mono (by omega)))).mono ?_
      rintro e w5 ⟨an, cn, an', cn', rfl, onp, onm, b5⟩
      have B5 := B00.trans (b5.mono B00.size)
      have ONP := Lib.hid onp
      have ONM := Lib.hid onm
      clear onp onm
      go_wp2_with fail
      refine hK.out _ _ ⟨cell_step B5 r0, cell_step B5 r1, cell_step B5 r2, cell_step B5 s0, cell_step B5 s1, cell_step B5 t0, cell_step B5 t1, B5⟩ (fun hHeld => ?_)
      clear hK K
      try simp only [Act.put, List.setIfInBounds_toArray, List.set_cons_zero, List.set_cons_succ, List.getElem_toArray, List.getElem_cons_zero, List.getElem_cons_succ]
      refine wpAnyH_take (i := 18) (v := ?v18) rfl (by kernel_rfl) (by kernel_rfl) (by kernel_rfl) (fun _ _ _ h => h) (Or.inl ⟨by rfl, ?hy18⟩) (by assumption) ?rest18
      case hy18 => (intro w hSw; (try dsimp only at hSw); go_simp; (first | done | with_reducible rfl))
      simp only [Act.put, List.setIfInBounds_toArray, List.set_cons_zero, List.set_cons_succ, List.getElem_toArray, List.getElem_cons_zero, List.getElem_cons_succ]
      refine wpAnyH_take (i := 19) (v := ?v19) rfl (by kernel_rfl) (by kernel_rfl) (by kernel_rfl) (fun _ _ _ h => h) (Or.inl ⟨by rfl, ?hy19⟩) (by assumption) ?rest19
      case hy19 => (intro w hSw; (try dsimp only at hSw); go_simp; (first | done | with_reducible rfl))
      simp only [Act.put, List.setIfInBounds_toArray, List.set_cons_zero, List.set_cons_succ, List.getElem_toArray, List.getElem_cons_zero, List.getElem_cons_succ]
      refine wpAnyH_take (i := 20) (v := ?v20) rfl (by kernel_rfl) (by kernel_rfl) (by kernel_rfl) (fun _ _ _ h => h) (Or.inl ⟨by rfl, ?hy20⟩) (by assumption) ?rest20
      case hy20 => (intro w hSw; (try dsimp only at hSw); go_simp; (first | done | with_reducible rfl))
      simp only [Act.put, List.setIfInBounds_toArray, List.set_cons_zero, List.set_cons_succ, List.getElem_toArray, List.getElem_cons_zero, List.getElem_cons_succ]
      refine wpAnyH_ready (rs := [21]) (by kernel_rfl) (by simp) ?_
      refine AllReadyH.cons rfl (fun K hK => ?_) AllReadyH.nil
      simp only [List.getElem_toArray, List.getElem_cons_zero, List.getElem_cons_succ]
      go_simp
      have bU := (Below.refl w5.heap.size w5).alloc (Nat.le_refl _) (.cells #[.slice none 0 0, .slice none 0 0] 26)
      have hU := cells_two w5 (.slice none 0 0) (.slice none 0 0) 26
      have fU := World.frozen?_alloc_new w5 #[.slice none 0 0, .slice none 0 0] 26
      have BU := B5.trans (bU.mono B5.size)
      refine hK.out _ _ ⟨cell_step BU r0, cell_step BU r1, cell_step BU r2, cell_step BU s0, cell_step BU s1, cell_step BU t0, cell_step BU t1, BU⟩ (fun hHeld => ?_)
      clear hK K
      try simp only [Act.put, List.setIfInBounds_toArray, List.set_cons_zero, List.set_cons_succ, List.getElem_toArray, List.getElem_cons_zero, List.getElem_cons_succ]
      have z5 := b5.size
      have zz : W0.drew.heap.size = W0.heap.size := rfl
      have HNEP : (Value.slice an (h - l) cn).ownBlock ≠ some w5.heap.size := fun e => by have := (ONP.out.lt _ e).2; omega
      have HNEM : (Value.slice an' (h - l) cn').ownBlock ≠ some w5.heap.size := fun e => by have := (ONM.out.lt _ e).2; omega
      have ONPU := Lib.hid (own_below ONP.out bU)
      have ONMU := Lib.hid (own_below ONM.out bU)
      have u0 := hU.1
      have u1 := hU.2
      have f0 := fU 0
      have f1 := fU 1
      have hUW : W0.heap.size ≤ w5.heap.size := by omega
      have hNU : NN + 4 ≤ w5.heap.size := by omega
      have hbP : W0.heap.size ≤ W0.drew.heap.size := Nat.le_refl _
      have hbM : W0.heap.size ≤ W0.drew.heap.size := Nat.le_refl _
      clear hU fU bU
      generalize hWU : w5.alloc (.cells #[.slice none 0 0, .slice none 0 0] 26) = WU at *
      generalize hUU : w5.heap.size = UU at *
      refine wpAnyH_ready (rs := [22]) (by kernel_rfl) (by simp) ?_
      refine AllReadyH.cons rfl (fun K hK => ?_) AllReadyH.nil
      simp only [List.getElem_toArray, List.getElem_cons_zero, List.getElem_cons_succ]
      have ST := stored2 (.slice an (h - l) cn) (.slice an' (h - l) cn') u0 u1 f0 f1
      have B8 := BU.trans (ST.2.2.2.2.mono hUW)
      have F : UU < ((WU.setCell ⟨UU, 0, none⟩ (.slice an (h - l) cn)).setCell ⟨UU, 1, none⟩ (.slice an' (h - l) cn')).heap.size ∧ NN + 4 ≤ UU ∧ ((WU.setCell ⟨UU, 0, none⟩ (.slice an (h - l) cn)).setCell ⟨UU, 1, none⟩ (.slice an' (h - l) cn')).cell? ⟨UU, 0, none⟩ = some (.slice an (h - l) cn) ∧ ((WU.setCell ⟨UU, 0, none⟩ (.slice an (h - l) cn)).setCell ⟨UU, 1, none⟩ (.slice an' (h - l) cn')).cell? ⟨UU, 1, none⟩ = some (.slice an' (h - l) cn') ∧ ((WU.setCell ⟨UU, 0, none⟩ (.slice an (h - l) cn)).setCell ⟨UU, 1, none⟩ (.slice an' (h - l) cn')).ownsRow W0.heap.size 2 1 (.slice an (h - l) cn) (h - l) (ns.map (Value.int .i64)) ∧ ((WU.setCell ⟨UU, 0, none⟩ (.slice an (h - l) cn)).setCell ⟨UU, 1, none⟩ (.slice an' (h - l) cn')).ownsRow W0.heap.size 2 1 (.slice an' (h - l) cn') (h - l) (ms.map (Value.int .i64)) ∧ Below W0.heap.size W0 ((WU.setCell ⟨UU, 0, none⟩ (.slice an (h - l) cn)).setCell ⟨UU, 1, none⟩ (.slice an' (h - l) cn')) :=
        ⟨Nat.lt_of_lt_of_le (World.block_lt_of_cell? _ _ u0) ST.2.2.2.2.size, hNU, ST.1, ST.2.1, owns_mono hbP (row_apart ONPU.out (grown_trans (grown_set WU UU 0 (.slice an (h - l) cn)) (grown_set _ UU 1 (.slice an' (h - l) cn'))) (fun k e => by cases e; exact HNEP)), owns_mono hbM (row_apart ONMU.out (grown_trans (grown_set WU UU 0 (.slice an (h - l) cn)) (grown_set _ UU 1 (.slice an' (h - l) cn'))) (fun k e => by cases e; exact HNEM)), B8⟩
      have x0_ := u0
      have x1_ := u1
      have y0_ := f0
      have y1_ := f1
      go_simp
      refine hK.out _ _ ⟨cell_step B8 r0, cell_step B8 r1, cell_step B8 r2, cell_step B8 s0, cell_step B8 s1, cell_step B8 t0, cell_step B8 t1, B8⟩ (fun hHeld => ?_)
      clear hK K
      try simp only [Act.put, List.setIfInBounds_toArray, List.set_cons_zero, List.set_cons_succ, List.getElem_toArray, List.getElem_cons_zero, List.getElem_cons_succ]
      refine wpAnyH_take (i := 23) (v := ?v21) rfl (by kernel_rfl) (by kernel_rfl) (by kernel_rfl) (fun _ _ _ h => h) (Or.inl ⟨by rfl, ?hy21⟩) (by assumption) ?rest21
      case hy21 => (intro w hSw; (try dsimp only at hSw); go_simp; (first | done | with_reducible rfl))
      simp only [Act.put, List.setIfInBounds_toArray, List.set_cons_zero, List.set_cons_succ, List.getElem_toArray, List.getElem_cons_zero, List.getElem_cons_succ]
      refine wpAnyH_done (by kernel_rfl) ?_ _
      clear hHeld
      clear ST B8 u0 u1 f0 f1 x0_ x1_ y0_ y1_
      generalize (WU.setCell ⟨UU, 0, none⟩ (.slice an (h - l) cn)).setCell ⟨UU, 1, none⟩ (.slice an' (h - l) cn') = W5 at *
      clear B5 ONP ONM BU z5 zz HNEP HNEM ONPU ONMU hUW hNU hbP hbM hWU hUU b5 B00
      revert an cn an' cn' UU W5
      exact TAIL.out
    refine AllReadyH.cons rfl (fun K hK => ?_) AllReadyH.nil
    try simp only [Act.put, List.setIfInBounds_toArray, List.set_cons_zero, List.set_cons_succ, List.getElem_toArray, List.getElem_cons_zero, List.getElem_cons_succ]
    go_simp
    have bU := ((Below.refl W0.heap.size W0).alloc (Nat.le_refl _) (.cells #[.slice none 0 0, .slice none 0 0] 26)).drew
    have hU := cells_two W0 (.slice none 0 0) (.slice none 0 0) 26
    have fU := World.frozen?_alloc_new W0 #[.slice none 0 0, .slice none 0 0] 26
    have bD := (Below.refl (W0.alloc (.cells #[.slice none 0 0, .slice none 0 0] 26)).heap.size (W0.alloc (.cells #[.slice none 0 0, .slice none 0 0] 26))).drew
    have u0 := cell_step bD hU.1
    have u1 := cell_step bD hU.2
    have f0 := frozen_step bD hU.1 (fU 0)
    have f1 := frozen_step bD hU.2 (fU 1)
    rw [hzD] at u0 u1 f0 f1
    have hzU : (W0.alloc (.cells #[.slice none 0 0, .slice none 0 0] 26)).drew.heap.size = NN + 5 := by simp [hzD]
    refine hK.out _ _ ⟨cell_step bU r0, cell_step bU r1, cell_step bU r2, cell_step bU s0, cell_step bU s1, cell_step bU t0, cell_step bU t1, bU⟩ (fun hHeld => ?_)
    clear hK K hU fU bD
    try simp only [Act.put, List.setIfInBounds_toArray, List.set_cons_zero, List.set_cons_succ, List.getElem_toArray, List.getElem_cons_zero, List.getElem_cons_succ]
    generalize (W0.alloc (.cells #[.slice none 0 0, .slice none 0 0] 26)).drew = W1 at *
    refine wpAnyH_ready (rs := [17]) (by kernel_rfl) (by simp) ?_
    refine AllReadyH.cons rfl (fun K hK => ?_) AllReadyH.nil
    simp only [List.getElem_toArray, List.getElem_cons_zero, List.getElem_cons_succ]
    go_simp
    go_at_call 13
    refine (HNX.out _ (AL.trans (bU.mono (by omega)))).mono ?_
    rintro e w5 ⟨an, cn, an', cn', rfl, onp, onm, b5⟩
    have B5 := bU.trans (b5.mono bU.size)
    have ONP := Lib.hid onp
    have ONM := Lib.hid onm
    clear onp onm
    go_wp2_with fail
    refine hK.out _ _ ⟨cell_step B5 r0, cell_step B5 r1, cell_step B5 r2, cell_step B5 s0, cell_step B5 s1, cell_step B5 t0, cell_step B5 t1, B5⟩ (fun hHeld => ?_)
    clear hK K
    try simp only [Act.put, List.setIfInBounds_toArray, List.set_cons_zero, List.set_cons_succ, List.getElem_toArray, List.getElem_cons_zero, List.getElem_cons_succ]
    refine wpAnyH_take (i := 18) (v := ?v22) rfl (by kernel_rfl) (by kernel_rfl) (by kernel_rfl) (fun _ _ _ h => h) (Or.inl ⟨by rfl, ?hy22⟩) (by assumption) ?rest22
    case hy22 => (intro w hSw; (try dsimp only at hSw); go_simp; (first | done | with_reducible rfl))
    simp only [Act.put, List.setIfInBounds_toArray, List.set_cons_zero, List.set_cons_succ, List.getElem_toArray, List.getElem_cons_zero, List.getElem_cons_succ]
    refine wpAnyH_take (i := 19) (v := ?v23) rfl (by kernel_rfl) (by kernel_rfl) (by kernel_rfl) (fun _ _ _ h => h) (Or.inl ⟨by rfl, ?hy23⟩) (by assumption) ?rest23
    case hy23 => (intro w hSw; (try dsimp only at hSw); go_simp; (first | done | with_reducible rfl))
    simp only [Act.put, List.setIfInBounds_toArray, List.set_cons_zero, List.set_cons_succ, List.getElem_toArray, List.getElem_cons_zero, List.getElem_cons_succ]
    refine wpAnyH_take (i := 20) (v := ?v24) rfl (by kernel_rfl) (by kernel_rfl) (by kernel_rfl) (fun _ _ _ h => h) (Or.inl ⟨by rfl, ?hy24⟩) (by assumption) ?rest24
    case hy24 => (intro w hSw; (try dsimp only at hSw); go_simp; (first | done | with_reducible rfl))
    simp only [Act.put, List.setIfInBounds_toArray, List.set_cons_zero, List.set_cons_succ, List.getElem_toArray, List.getElem_cons_zero, List.getElem_cons_succ]
    have u0' := cell_step b5 u0
    have u1' := cell_step b5 u1
    have f0' := frozen_step b5 u0 f0
    have f1' := frozen_step b5 u1 f1
    clear u0 u1 f0 f1
    have z5 := b5.size
    have HNEP : (Value.slice an (h - l) cn).ownBlock ≠ some (NN + 4) := fun e => by have := (ONP.out.lt _ e).1; omega
    have HNEM : (Value.slice an' (h - l) cn').ownBlock ≠ some (NN + 4) := fun e => by have := (ONM.out.lt _ e).1; omega
    have hbP : W0.heap.size ≤ W1.heap.size := by omega
    have hbM : W0.heap.size ≤ W1.heap.size := by omega
    have hUW : W0.heap.size ≤ NN + 4 := by omega
    have hNU : NN + 4 ≤ NN + 4 := Nat.le_refl _
    have u0 := u0'
    have u1 := u1'
    have f0 := f0'
    have f1 := f1'
    clear u0' u1' f0' f1'
    have BU := B5
    have ONPU := ONP
    have ONMU := ONM
    obtain ⟨WU, hWU⟩ : ∃ WU, WU = w5 := ⟨_, rfl⟩
    subst hWU
    refine wpAnyH_ready (rs := [22]) (by kernel_rfl) (by simp) ?_
    refine AllReadyH.cons rfl (fun K hK => ?_) AllReadyH.nil
    simp only [List.getElem_toArray, List.getElem_cons_zero, List.getElem_cons_succ]
    have ST := stored2 (.slice an (h - l) cn) (.slice an' (h - l) cn') u0 u1 f0 f1
    have B8 := BU.trans (ST.2.2.2.2.mono hUW)
    have F : (NN + 4) < ((WU.setCell ⟨(NN + 4), 0, none⟩ (.slice an (h - l) cn)).setCell ⟨(NN + 4), 1, none⟩ (.slice an' (h - l) cn')).heap.size ∧ NN + 4 ≤ (NN + 4) ∧ ((WU.setCell ⟨(NN + 4), 0, none⟩ (.slice an (h - l) cn)).setCell ⟨(NN + 4), 1, none⟩ (.slice an' (h - l) cn')).cell? ⟨(NN + 4), 0, none⟩ = some (.slice an (h - l) cn) ∧ ((WU.setCell ⟨(NN + 4), 0, none⟩ (.slice an (h - l) cn)).setCell ⟨(NN + 4), 1, none⟩ (.slice an' (h - l) cn')).cell? ⟨(NN + 4), 1, none⟩ = some (.slice an' (h - l) cn') ∧ ((WU.setCell ⟨(NN + 4), 0, none⟩ (.slice an (h - l) cn)).setCell ⟨(NN + 4), 1, none⟩ (.slice an' (h - l) cn')).ownsRow W0.heap.size 2 1 (.slice an (h - l) cn) (h - l) (ns.map (Value.int .i64)) ∧ ((WU.setCell ⟨(NN + 4), 0, none⟩ (.slice an (h - l) cn)).setCell ⟨(NN + 4), 1, none⟩ (.slice an' (h - l) cn')).ownsRow W0.heap.size 2 1 (.slice an' (h - l) cn') (h - l) (ms.map (Value.int .i64)) ∧ Below W0.heap.size W0 ((WU.setCell ⟨(NN + 4), 0, none⟩ (.slice an (h - l) cn)).setCell ⟨(NN + 4), 1, none⟩ (.slice an' (h - l) cn')) :=
      ⟨Nat.lt_of_lt_of_le (World.block_lt_of_cell? _ _ u0) ST.2.2.2.2.size, hNU, ST.1, ST.2.1, owns_mono hbP (row_apart ONPU.out (grown_trans (grown_set WU (NN + 4) 0 (.slice an (h - l) cn)) (grown_set _ (NN + 4) 1 (.slice an' (h - l) cn'))) (fun k e => by cases e; exact HNEP)), owns_mono hbM (row_apart ONMU.out (grown_trans (grown_set WU (NN + 4) 0 (.slice an (h - l) cn)) (grown_set _ (NN + 4) 1 (.slice an' (h - l) cn'))) (fun k e => by cases e; exact HNEM)), B8⟩
    have x0_ := u0
    have x1_ := u1
    have y0_ := f0
    have y1_ := f1
    go_simp
    refine hK.out _ _ ⟨cell_step B8 r0, cell_step B8 r1, cell_step B8 r2, cell_step B8 s0, cell_step B8 s1, cell_step B8 t0, cell_step B8 t1, B8⟩ (fun hHeld => ?_)
    clear hK K
    try simp only [Act.put, List.setIfInBounds_toArray, List.set_cons_zero, List.set_cons_succ, List.getElem_toArray, List.getElem_cons_zero, List.getElem_cons_succ]
    refine wpAnyH_take (i := 23) (v := ?v25) rfl (by kernel_rfl) (by kernel_rfl) (by kernel_rfl) (fun _ _ _ h => h) (Or.inl ⟨by rfl, ?hy25⟩) (by assumption) ?rest25
    case hy25 => (intro w hSw; (try dsimp only at hSw); go_simp; (first | done | with_reducible rfl))
    simp only [Act.put, List.setIfInBounds_toArray, List.set_cons_zero, List.set_cons_succ, List.getElem_toArray, List.getElem_cons_zero, List.getElem_cons_succ]
    refine wpAnyH_done (by kernel_rfl) ?_ _
    clear hHeld
    clear ST B8 u0 u1 f0 f1 x0_ x1_ y0_ y1_
    generalize (WU.setCell ⟨NN + 4, 0, none⟩ (.slice an (h - l) cn)).setCell ⟨NN + 4, 1, none⟩ (.slice an' (h - l) cn') = W5 at *
    exact TAIL.out _ _ _ _ _ _ F
  case tail =>
    intro an cn an' cn' UU W5 F
    obtain ⟨HF1, HF2, HF3, HF4, HF5, HF6, HF7⟩ := F
    have hzW5 := HF7.size
    have A5 := AL.trans (HF7.mono (by omega))
    have s0 := cell_step HF7 s0
    have s1 := cell_step HF7 s1
    have t0 := cell_step HF7 t0
    have qf0 := frozen_step HF7 q0 qf0
    have qf1 := frozen_step HF7 q1 qf1
    have q0 := cell_step HF7 q0
    have q1 := cell_step HF7 q1
    clear r0 r1 r2 t1 hsp hsm HNX
    go_wp2_with fail
    refine (fun (TAIL2 : Hid (?G2 : Prop)) => ?main2) (Lib.hid ?tail2)
    case main2 =>
      have B00 := (Below.refl W5.heap.size W5).drew
      have zd : W5.drew.heap.size = W5.heap.size := rfl
      refine wp_region_held_drew (S := fun w' => w'.cell? ⟨NN + 1, 0, none⟩ = some (.slice a1 zp.length c1) ∧ w'.cell? ⟨NN + 1, 1, none⟩ = some (.slice a2 zm.length c2) ∧ Below W5.heap.size W5 w') (by kernel_rfl) ?_ (fun hHeld => ?_)
      · exact ⟨cell_step B00 s0, cell_step B00 s1, B00⟩
      refine wpAnyH_take (i := 0) (v := ?v26) rfl (by kernel_rfl) (by kernel_rfl) (by kernel_rfl) (fun _ _ _ h => h) (Or.inl ⟨by rfl, ?hy26⟩) (by assumption) ?rest26
      case hy26 => (intro w hSw; (try dsimp only at hSw); go_simp; (first | done | with_reducible rfl))
      simp only [Act.put, List.setIfInBounds_toArray, List.set_cons_zero, List.set_cons_succ, List.getElem_toArray, List.getElem_cons_zero]
      refine wpAnyH_take (i := 1) (v := ?v27) rfl (by kernel_rfl) (by kernel_rfl) (by kernel_rfl) (fun _ _ _ h => h) (Or.inl ⟨by rfl, ?hy27⟩) (by assumption) ?rest27
      case hy27 => (intro w hSw; (try dsimp only at hSw); go_simp; (first | done | with_reducible rfl))
      simp only [Act.put, List.setIfInBounds_toArray, List.set_cons_zero, List.set_cons_succ, List.getElem_toArray, List.getElem_cons_zero, List.getElem_cons_succ]
      refine wpAnyH_take (i := 3) (v := ?v28) rfl (by kernel_rfl) (by kernel_rfl) (by kernel_rfl) (fun _ _ _ h => h) (Or.inl ⟨by rfl, ?hy28⟩) (by assumption) ?rest28
      case hy28 => (intro w hSw; (try dsimp only at hSw); go_simp; (first | done | with_reducible rfl))
      simp only [Act.put, List.setIfInBounds_toArray, List.set_cons_zero, List.set_cons_succ, List.getElem_toArray, List.getElem_cons_zero, List.getElem_cons_succ]
      refine wpAnyH_take (i := 4) (v := ?v29) rfl (by kernel_rfl) (by kernel_rfl) (by kernel_rfl) (fun _ _ _ h => h) (Or.inl ⟨by rfl, ?hy29⟩) (by assumption) ?rest29
      case hy29 => (intro w hSw; (try dsimp only at hSw); go_simp; (first | done | with_reducible rfl))
      simp only [Act.put, List.setIfInBounds_toArray, List.set_cons_zero, List.set_cons_succ, List.getElem_toArray, List.getElem_cons_zero, List.getElem_cons_succ]
      refine wpAnyH_ready (rs := [2, 7]) (by kernel_rfl) (by simp) ?_
      refine AllReadyH.cons rfl (fun K hK => ?_) ?_
      · try simp only [Act.put, List.setIfInBounds_toArray, List.set_cons_zero, List.set_cons_succ, List.getElem_toArray, List.getElem_cons_zero, List.getElem_cons_succ]
        go_simp
        go_at_call 11
        refine (HCP.out _ (A5.trans (B00.mono (by omega)))).mono ?_
        rintro e w6 ⟨vp, rfl, op6, b6⟩
        have B6 := B00.trans (b6.mono B00.size)
        obtain ⟨gp, kp, rfl⟩ := own_value op6
        go_wp2_with fail
        refine hK.out _ _ ⟨cell_step B6 s0, cell_step B6 s1, B6⟩ (fun hHeld => ?_)
        clear hK K
        try simp only [Act.put, List.setIfInBounds_toArray, List.set_cons_zero, List.set_cons_succ, List.getElem_toArray, List.getElem_cons_zero, List.getElem_cons_succ]
        refine wpAnyH_ready (rs := [5, 7]) (by kernel_rfl) (by simp) ?_
        refine AllReadyH.cons rfl (fun K hK => ?_) ?_
        · try simp only [Act.put, List.setIfInBounds_toArray, List.set_cons_zero, List.set_cons_succ, List.getElem_toArray, List.getElem_cons_zero, List.getElem_cons_succ]
          go_simp
          go_at_call 11
          refine (HCM.out _ (A5.trans (B6.mono (by omega)))).mono ?_
          rintro e w7 ⟨vm, rfl, om7, b7⟩
          have B7 := B6.trans (b7.mono B6.size)
          obtain ⟨gm, km, rfl⟩ := own_value om7
          go_wp2_with fail
          refine hK.out _ _ ⟨cell_step B7 s0, cell_step B7 s1, B7⟩ (fun hHeld => ?_)
          clear hK K
          try simp only [Act.put, List.setIfInBounds_toArray, List.set_cons_zero, List.set_cons_succ, List.getElem_toArray, List.getElem_cons_zero, List.getElem_cons_succ]
          refine wpAnyH_take (i := 6) (v := ?v30) rfl (by kernel_rfl) (by kernel_rfl) (by kernel_rfl) (fun _ _ _ h => h) (Or.inl ⟨by rfl, ?hy30⟩) (by assumption) ?rest30
          case hy30 => (intro w hSw; (try dsimp only at hSw); go_simp; (first | done | with_reducible rfl))
          simp only [Act.put, List.setIfInBounds_toArray, List.set_cons_zero, List.set_cons_succ, List.getElem_toArray, List.getElem_cons_zero, List.getElem_cons_succ]
          refine wpAnyH_ready (rs := [7]) (by kernel_rfl) (by simp) ?_
          refine AllReadyH.cons rfl (fun K hK => ?_) AllReadyH.nil
          simp only [List.getElem_toArray, List.getElem_cons_zero, List.getElem_cons_succ]
          go_simp
          have bV := (Below.refl w7.heap.size w7).alloc (Nat.le_refl _) (.cells #[.slice none 0 0, .slice none 0 0] 26)
          have hV := cells_two w7 (.slice none 0 0) (.slice none 0 0) 26
          have fV := World.frozen?_alloc_new w7 #[.slice none 0 0, .slice none 0 0] 26
          have hzV : (w7.alloc (.cells #[.slice none 0 0, .slice none 0 0] 26)).heap.size = w7.heap.size + 1 := by simp
          have BV := B7.trans (bV.mono B7.size)
          have v0 := hV.1
          have v1 := hV.2
          have e0 := fV 0
          have e1 := fV 1
          refine hK.out _ _ ⟨cell_step BV s0, cell_step BV s1, BV⟩ (fun hHeld => ?_)
          clear hK K hV fV
          try simp only [Act.put, List.setIfInBounds_toArray, List.set_cons_zero, List.set_cons_succ, List.getElem_toArray, List.getElem_cons_zero, List.getElem_cons_succ]
          have z6 := b6.size
          have z7 := b7.size
          have OPv := owns_mono (show W5.heap.size ≤ W5.drew.heap.size by omega) (own_below (own_below op6 b7) bV)
          have OMv := owns_mono (show W5.heap.size ≤ w6.heap.size by omega) (own_below om7 bV)
          have hpu : (Value.slice gp zp.length kp).ownBlock ≠ some w7.heap.size := fun e => by have := (op6.lt _ e).2; omega
          have hmu : (Value.slice gm zm.length km).ownBlock ≠ some w7.heap.size := fun e => by have := (om7.lt _ e).2; omega
          have hpm := rows_apart op6 om7 (Nat.le_refl _)
          have hVU : W5.heap.size ≤ w7.heap.size := by omega
          have BVV := BV
          clear BV bV b6 b7 op6 om7 z6 z7 B6 B7 hzV
          generalize w7.alloc (.cells #[.slice none 0 0, .slice none 0 0] 26) = WV at *
          generalize w7.heap.size = VV at *
          refine wpAnyH_ready (rs := [8]) (by kernel_rfl) (by simp) ?_
          refine AllReadyH.cons rfl (fun K hK => ?_) AllReadyH.nil
          simp only [List.getElem_toArray, List.getElem_cons_zero, List.getElem_cons_succ]
          have M8 := Mid.made (W0 := W5) (N := W5.heap.size) (U := VV) (n := zp.length) (m := zm.length) (xs := zp) (ys := zm) (vp := (.slice gp zp.length kp)) (vm := (.slice gm zm.length km)) (W := WV) hVU v0 v1 e0 e1 OPv OMv hpu hmu hpm BVV
          have ST := stored2 (.slice gp zp.length kp) (.slice gm zm.length km) v0 v1 e0 e1
          have B8 := M8.bb
          have x0_ := v0
          have x1_ := v1
          have y0_ := e0
          have y1_ := e1
          clear ST
          go_simp
          refine hK.out _ _ ⟨cell_step B8 s0, cell_step B8 s1, B8⟩ (fun hHeld => ?_)
          clear hK K
          try simp only [Act.put, List.setIfInBounds_toArray, List.set_cons_zero, List.set_cons_succ, List.getElem_toArray, List.getElem_cons_zero, List.getElem_cons_succ]
          refine wpAnyH_done (by kernel_rfl) ?_ _
          clear hHeld x0_ x1_ y0_ y1_ v0 v1 e0 e1 B8
          clear OPv OMv hpu hmu hpm hVU BVV
          generalize (WV.setCell ⟨VV, 0, none⟩ (.slice gp zp.length kp)).setCell ⟨VV, 1, none⟩ (.slice gm zm.length km) = W8 at *
          clear zd B00
          revert gp kp gm km VV W8
          exact TAIL2.out
        refine AllReadyH.cons rfl (fun K hK => ?_) AllReadyH.nil
        try simp only [Act.put, List.setIfInBounds_toArray, List.set_cons_zero, List.set_cons_succ, List.getElem_toArray, List.getElem_cons_zero, List.getElem_cons_succ]
        go_simp
        have bV := (Below.refl w6.heap.size w6).alloc (Nat.le_refl _) (.cells #[.slice none 0 0, .slice none 0 0] 26)
        have hV := cells_two w6 (.slice none 0 0) (.slice none 0 0) 26
        have fV := World.frozen?_alloc_new w6 #[.slice none 0 0, .slice none 0 0] 26
        have hzV : (w6.alloc (.cells #[.slice none 0 0, .slice none 0 0] 26)).heap.size = w6.heap.size + 1 := by simp
        have BV := B6.trans (bV.mono B6.size)
        have v0 := hV.1
        have v1 := hV.2
        have e0 := fV 0
        have e1 := fV 1
        refine hK.out _ _ ⟨cell_step BV s0, cell_step BV s1, BV⟩ (fun hHeld => ?_)
        clear hK K hV fV
        try simp only [Act.put, List.setIfInBounds_toArray, List.set_cons_zero, List.set_cons_succ, List.getElem_toArray, List.getElem_cons_zero, List.getElem_cons_succ]
        generalize hWV : w6.alloc (.cells #[.slice none 0 0, .slice none 0 0] 26) = WV at *
        refine wpAnyH_ready (rs := [5]) (by kernel_rfl) (by simp) ?_
        refine AllReadyH.cons rfl (fun K hK => ?_) AllReadyH.nil
        simp only [List.getElem_toArray, List.getElem_cons_zero, List.getElem_cons_succ]
        go_simp
        go_at_call 11
        refine (HCM.out _ (A5.trans (BV.mono (by omega)))).mono ?_
        rintro e w7 ⟨vm, rfl, om7, b7⟩
        have B7 := BV.trans (b7.mono BV.size)
        obtain ⟨gm, km, rfl⟩ := own_value om7
        go_wp2_with fail
        refine hK.out _ _ ⟨cell_step B7 s0, cell_step B7 s1, B7⟩ (fun hHeld => ?_)
        clear hK K
        try simp only [Act.put, List.setIfInBounds_toArray, List.set_cons_zero, List.set_cons_succ, List.getElem_toArray, List.getElem_cons_zero, List.getElem_cons_succ]
        refine wpAnyH_take (i := 6) (v := ?v31) rfl (by kernel_rfl) (by kernel_rfl) (by kernel_rfl) (fun _ _ _ h => h) (Or.inl ⟨by rfl, ?hy31⟩) (by assumption) ?rest31
        case hy31 => (intro w hSw; (try dsimp only at hSw); go_simp; (first | done | with_reducible rfl))
        simp only [Act.put, List.setIfInBounds_toArray, List.set_cons_zero, List.set_cons_succ, List.getElem_toArray, List.getElem_cons_zero, List.getElem_cons_succ]
        have z6 := b6.size
        have z7 := b7.size
        have zV := bV.size
        have e0 := frozen_step b7 v0 e0
        have e1 := frozen_step b7 v1 e1
        have v0 := cell_step b7 v0
        have v1 := cell_step b7 v1
        have OPv := owns_mono (show W5.heap.size ≤ W5.drew.heap.size by omega) (own_below (own_below op6 bV) b7)
        have OMv := owns_mono (show W5.heap.size ≤ WV.heap.size by omega) om7
        have hpu : (Value.slice gp zp.length kp).ownBlock ≠ some w6.heap.size := fun e => by have := (op6.lt _ e).2; omega
        have hmu : (Value.slice gm zm.length km).ownBlock ≠ some w6.heap.size := fun e => by have := (om7.lt _ e).1; omega
        have hpm := rows_apart op6 om7 (by omega)
        have hVU : W5.heap.size ≤ w6.heap.size := by omega
        have BVV := B7
        refine wpAnyH_ready (rs := [8]) (by kernel_rfl) (by simp) ?_
        refine AllReadyH.cons rfl (fun K hK => ?_) AllReadyH.nil
        simp only [List.getElem_toArray, List.getElem_cons_zero, List.getElem_cons_succ]
        have M8 := Mid.made (W0 := W5) (N := W5.heap.size) (U := w6.heap.size) (n := zp.length) (m := zm.length) (xs := zp) (ys := zm) (vp := (.slice gp zp.length kp)) (vm := (.slice gm zm.length km)) (W := w7) hVU v0 v1 e0 e1 OPv OMv hpu hmu hpm BVV
        have ST := stored2 (.slice gp zp.length kp) (.slice gm zm.length km) v0 v1 e0 e1
        have B8 := M8.bb
        have x0_ := v0
        have x1_ := v1
        have y0_ := e0
        have y1_ := e1
        clear ST
        go_simp
        refine hK.out _ _ ⟨cell_step B8 s0, cell_step B8 s1, B8⟩ (fun hHeld => ?_)
        clear hK K
        try simp only [Act.put, List.setIfInBounds_toArray, List.set_cons_zero, List.set_cons_succ, List.getElem_toArray, List.getElem_cons_zero, List.getElem_cons_succ]
        refine wpAnyH_done (by kernel_rfl) ?_ _
        clear hHeld x0_ x1_ y0_ y1_ v0 v1 e0 e1 B8
        exact TAIL2.out _ _ _ _ _ _ M8
      refine AllReadyH.cons rfl (fun K hK => ?_) AllReadyH.nil
      try simp only [Act.put, List.setIfInBounds_toArray, List.set_cons_zero, List.set_cons_succ, List.getElem_toArray, List.getElem_cons_zero, List.getElem_cons_succ]
      go_simp
      have bV := ((Below.refl W5.heap.size W5).alloc (Nat.le_refl _) (.cells #[.slice none 0 0, .slice none 0 0] 26)).drew
      have hV := cells_two W5 (.slice none 0 0) (.slice none 0 0) 26
      have fV := World.frozen?_alloc_new W5 #[.slice none 0 0, .slice none 0 0] 26
      have bD := (Below.refl (W5.alloc (.cells #[.slice none 0 0, .slice none 0 0] 26)).heap.size (W5.alloc (.cells #[.slice none 0 0, .slice none 0 0] 26))).drew
      have v0 := cell_step bD hV.1
      have v1 := cell_step bD hV.2
      have e0 := frozen_step bD hV.1 (fV 0)
      have e1 := frozen_step bD hV.2 (fV 1)
      have hzV : (W5.alloc (.cells #[.slice none 0 0, .slice none 0 0] 26)).drew.heap.size = W5.heap.size + 1 := by simp
      refine hK.out _ _ ⟨cell_step bV s0, cell_step bV s1, bV⟩ (fun hHeld => ?_)
      clear hK K hV fV bD
      try simp only [Act.put, List.setIfInBounds_toArray, List.set_cons_zero, List.set_cons_succ, List.getElem_toArray, List.getElem_cons_zero, List.getElem_cons_succ]
      generalize (W5.alloc (.cells #[.slice none 0 0, .slice none 0 0] 26)).drew = W1 at *
      refine wpAnyH_ready (rs := [2]) (by kernel_rfl) (by simp) ?_
      refine AllReadyH.cons rfl (fun K hK => ?_) AllReadyH.nil
      simp only [List.getElem_toArray, List.getElem_cons_zero, List.getElem_cons_succ]
      go_simp
      go_at_call 11
      refine (HCP.out _ (A5.trans (bV.mono (by omega)))).mono ?_
      rintro e w6 ⟨vp, rfl, op6, b6⟩
      have B6 := bV.trans (b6.mono bV.size)
      obtain ⟨gp, kp, rfl⟩ := own_value op6
      go_wp2_with fail
      refine hK.out _ _ ⟨cell_step B6 s0, cell_step B6 s1, B6⟩ (fun hHeld => ?_)
      clear hK K
      try simp only [Act.put, List.setIfInBounds_toArray, List.set_cons_zero, List.set_cons_succ, List.getElem_toArray, List.getElem_cons_zero, List.getElem_cons_succ]
      refine wpAnyH_ready (rs := [5]) (by kernel_rfl) (by simp) ?_
      refine AllReadyH.cons rfl (fun K hK => ?_) AllReadyH.nil
      simp only [List.getElem_toArray, List.getElem_cons_zero, List.getElem_cons_succ]
      go_simp
      go_at_call 11
      refine (HCM.out _ (A5.trans (B6.mono (by omega)))).mono ?_
      rintro e w7 ⟨vm, rfl, om7, b7⟩
      have B7 := B6.trans (b7.mono B6.size)
      obtain ⟨gm, km, rfl⟩ := own_value om7
      go_wp2_with fail
      refine hK.out _ _ ⟨cell_step B7 s0, cell_step B7 s1, B7⟩ (fun hHeld => ?_)
      clear hK K
      try simp only [Act.put, List.setIfInBounds_toArray, List.set_cons_zero, List.set_cons_succ, List.getElem_toArray, List.getElem_cons_zero, List.getElem_cons_succ]
      refine wpAnyH_take (i := 6) (v := ?v32) rfl (by kernel_rfl) (by kernel_rfl) (by kernel_rfl) (fun _ _ _ h => h) (Or.inl ⟨by rfl, ?hy32⟩) (by assumption) ?rest32
      case hy32 => (intro w hSw; (try dsimp only at hSw); go_simp; (first | done | with_reducible rfl))
      simp only [Act.put, List.setIfInBounds_toArray, List.set_cons_zero, List.set_cons_succ, List.getElem_toArray, List.getElem_cons_zero, List.getElem_cons_succ]
      have z6 := b6.size
      have z7 := b7.size
      have e0 := frozen_step b7 (cell_step b6 v0) (frozen_step b6 v0 e0)
      have e1 := frozen_step b7 (cell_step b6 v1) (frozen_step b6 v1 e1)
      have v0 := cell_step b7 (cell_step b6 v0)
      have v1 := cell_step b7 (cell_step b6 v1)
      have OPv := owns_mono (show W5.heap.size ≤ W1.heap.size by omega) (own_below op6 b7)
      have OMv := owns_mono (show W5.heap.size ≤ w6.heap.size by omega) om7
      have hpu : (Value.slice gp zp.length kp).ownBlock ≠ some W5.heap.size := fun e => by have := (op6.lt _ e).1; omega
      have hmu : (Value.slice gm zm.length km).ownBlock ≠ some W5.heap.size := fun e => by have := (om7.lt _ e).1; omega
      have hpm := rows_apart op6 om7 (Nat.le_refl _)
      have hVU : W5.heap.size ≤ W5.heap.size := Nat.le_refl _
      have BVV := B7
      refine wpAnyH_ready (rs := [8]) (by kernel_rfl) (by simp) ?_
      refine AllReadyH.cons rfl (fun K hK => ?_) AllReadyH.nil
      simp only [List.getElem_toArray, List.getElem_cons_zero, List.getElem_cons_succ]
      have M8 := Mid.made (W0 := W5) (N := W5.heap.size) (U := W5.heap.size) (n := zp.length) (m := zm.length) (xs := zp) (ys := zm) (vp := (.slice gp zp.length kp)) (vm := (.slice gm zm.length km)) (W := w7) hVU v0 v1 e0 e1 OPv OMv hpu hmu hpm BVV
      have ST := stored2 (.slice gp zp.length kp) (.slice gm zm.length km) v0 v1 e0 e1
      have B8 := M8.bb
      have x0_ := v0
      have x1_ := v1
      have y0_ := e0
      have y1_ := e1
      clear ST
      go_simp
      refine hK.out _ _ ⟨cell_step B8 s0, cell_step B8 s1, B8⟩ (fun hHeld => ?_)
      clear hK K
      try simp only [Act.put, List.setIfInBounds_toArray, List.set_cons_zero, List.set_cons_succ, List.getElem_toArray, List.getElem_cons_zero, List.getElem_cons_succ]
      refine wpAnyH_done (by kernel_rfl) ?_ _
      clear hHeld x0_ x1_ y0_ y1_ v0 v1 e0 e1 B8
      exact TAIL2.out _ _ _ _ _ _ M8
    case tail2 =>
      intro gp kp gm km VV W8 M8
      have HM8 := Lib.hid M8
      have hsl : l ≤ zp.length ∧ h ≤ zm.length := by have := HLM.out; omega
      obtain ⟨hsl1, hsl2⟩ := hsl
      clear M8
      go_wp2_with fail
      go_loopw [13] (fun i wr => ∃ k : Nat, k ≤ h - l ∧ i = .int .i64 k ∧ Mid W5.heap.size VV (.slice gp zp.length kp) (.slice gm zm.length km) zp.length zm.length (splice zp l (ns.take k)) (splice zm l (ms.take k)) W5 wr) (fun i _ => h - l - (intOf i).toNat)
      case atStart => exact ⟨0, Nat.zero_le _, rfl, by simpa [splice] using HM8.out⟩
      case round =>
        obtain ⟨k, hk, rfl, M⟩ := hrel
        by_cases hlt : k < h - l
        · have hwk : IntKind.i64.wrap ((l : Int) + (k : Int)) = ((l + k : Nat) : Int) := by rw [IntWalk.i64_in _ (by omega)]; omega
          have hlk : l + k < zp.length := by omega
          have hlk2 : l + k < zm.length := by omega
          have hlk' : (l : Int) + (k : Int) < (zp.length : Int) := by omega
          have hlk2' : (l : Int) + (k : Int) < (zm.length : Int) := by omega
          have hlk0 : 0 ≤ (l : Int) + (k : Int) := by omega
          have htn : ((l : Int) + (k : Int)).toNat = l + k := by omega
          have bdP := (Below.refl wr.heap.size wr).drew
          have Md := M.below bdP
          obtain ⟨gd, cdP, e0, hg1P, hg2P⟩ := own_some Md.op (show 0 < zp.length by omega)
          cases e0
          have cv := Md.op.cellAt (l + k) (by omega)
          have cf := Md.op.frozenAt (l + k)
          obtain ⟨y0_, hy0⟩ : ∃ y0_, (splice zp l (ns.take k))[l + k]? = some y0_ := ⟨_, List.getElem?_eq_getElem (show l + k < (splice zp l (ns.take k)).length by rw [length_splice _ _ _ (by rw [List.length_take]; omega)]; omega)⟩
          rw [List.getElem?_map, hy0] at cv
          simp only [Option.map_some] at cv
          obtain ⟨ga, ca, e0, hga1, hga2⟩ := own_some HF5 (show 0 < h - l by omega)
          cases e0
          have sv := HF5.cellAt k (by omega)
          have HNEP := Lib.hid (show gd ≠ NN + 2 ∧ gd ≠ UU ∧ gd ≠ ga from ⟨by omega, by omega, by omega⟩)
          obtain ⟨y, hy⟩ : ∃ y, ns[k]? = some y := ⟨_, List.getElem?_eq_getElem (show k < ns.length by have := HNL.out; omega)⟩
          rw [List.getElem?_map, hy] at sv
          simp only [Option.map_some] at sv
          have sv := (M.bb.cell (p := ⟨ga, k, none⟩) (show ga < _ by omega)).trans sv
          have tr := (M.bb.cell (p := ⟨NN + 2, 0, none⟩) (show NN + 2 < _ by omega)).trans t0
          have xr := (M.bb.cell (p := ⟨UU, 0, none⟩) (show UU < _ by omega)).trans HF3
          have ur := M.u0
          have HMD := Lib.hid Md
          have HST := Lib.hid (Md.op.stored (l + k) (.int .i64 y))
          have hss := splice_step zp ns l k y hy (show l + ns.length ≤ zp.length by have := HNL.out; omega)
          have HSS := Lib.hid hss
          clear hss hy hy0 Md M
          go_wp2_with fail
          refine wp_region_held_drew (S := fun w' => w'.cell? ⟨NN + 2, 0, none⟩ = some (.int .i64 (l : Int)) ∧ w'.cell? ⟨UU, 0, none⟩ = some (.slice (some ⟨ga, 0, none⟩) (h - l) cn) ∧ w'.cell? ⟨VV, 0, none⟩ = some (.slice (some ⟨gd, 0, none⟩) zp.length kp) ∧ w'.cell? ⟨ga, k, none⟩ = some (.int .i64 y)) (by kernel_rfl) ?_ (fun hHeld => ?_)
          · exact ⟨cell_step bdP tr, cell_step bdP xr, cell_step bdP ur, cell_step bdP sv⟩
          refine wpAnyH_take (i := 0) (v := ?v33) rfl (by kernel_rfl) (by kernel_rfl) (by kernel_rfl) (fun _ _ _ h => h) (Or.inl ⟨by rfl, ?hy33⟩) (by assumption) ?rest33
          case hy33 => (intro w hSw; (try dsimp only at hSw); go_simp; (first | done | with_reducible rfl))
          simp only [Act.put, List.setIfInBounds_toArray, List.set_cons_zero, List.set_cons_succ, List.getElem_toArray, List.getElem_cons_zero]
          refine wpAnyH_take (i := 1) (v := ?v34) rfl (by kernel_rfl) (by kernel_rfl) (by kernel_rfl) (fun _ _ _ h => h) (Or.inl ⟨by rfl, ?hy34⟩) (by assumption) ?rest34
          case hy34 => (intro w hSw; (try dsimp only at hSw); go_simp; (first | done | with_reducible rfl))
          simp only [Act.put, List.setIfInBounds_toArray, List.set_cons_zero, List.set_cons_succ, List.getElem_toArray, List.getElem_cons_zero, List.getElem_cons_succ]
          refine wpAnyH_take (i := 2) (v := ?v35) rfl (by kernel_rfl) (by kernel_rfl) (by kernel_rfl) (fun _ _ _ h => h) (Or.inl ⟨by rfl, ?hy35⟩) (by assumption) ?rest35
          case hy35 => (intro w hSw; (try dsimp only at hSw); go_simp; (first | done | with_reducible rfl))
          simp only [Act.put, List.setIfInBounds_toArray, List.set_cons_zero, List.set_cons_succ, List.getElem_toArray, List.getElem_cons_zero, List.getElem_cons_succ]
          refine wpAnyH_take (i := 3) (v := ?v36) rfl (by kernel_rfl) (by kernel_rfl) (by kernel_rfl) (fun _ _ _ h => h) (Or.inl ⟨by rfl, ?hy36⟩) (by assumption) ?rest36
          case hy36 => (intro w hSw; (try dsimp only at hSw); go_simp; (first | done | with_reducible rfl))
          simp only [Act.put, List.setIfInBounds_toArray, List.set_cons_zero, List.set_cons_succ, List.getElem_toArray, List.getElem_cons_zero, List.getElem_cons_succ]
          refine wpAnyH_take (i := 4) (v := ?v37) rfl (by kernel_rfl) (by kernel_rfl) (by kernel_rfl) (fun _ _ _ h => h) (Or.inl ⟨by rfl, ?hy37⟩) (by assumption) ?rest37
          case hy37 => (intro w hSw; (try dsimp only at hSw); go_simp; (first | done | with_reducible rfl))
          simp only [Act.put, List.setIfInBounds_toArray, List.set_cons_zero, List.set_cons_succ, List.getElem_toArray, List.getElem_cons_zero, List.getElem_cons_succ]
          refine wpAnyH_take (i := 5) (v := ?v38) rfl (by kernel_rfl) (by kernel_rfl) (by kernel_rfl) (fun _ _ _ h => h) (Or.inl ⟨by rfl, ?hy38⟩) (by assumption) ?rest38
          case hy38 => (intro w hSw; (try dsimp only at hSw); go_simp; (first | done | with_reducible rfl))
          simp only [Act.put, List.setIfInBounds_toArray, List.set_cons_zero, List.set_cons_succ, List.getElem_toArray, List.getElem_cons_zero, List.getElem_cons_succ]
          refine wpAnyH_take (i := 6) (v := ?v39) rfl (by kernel_rfl) (by kernel_rfl) (by kernel_rfl) (fun _ _ _ h => h) (Or.inl ⟨by rfl, ?hy39⟩) (by assumption) ?rest39
          case hy39 => (intro w hSw; (try dsimp only at hSw); go_simp; (first | done | with_reducible rfl))
          simp only [Act.put, List.setIfInBounds_toArray, List.set_cons_zero, List.set_cons_succ, List.getElem_toArray, List.getElem_cons_zero, List.getElem_cons_succ]
          refine wpAnyH_take (i := 7) (v := ?v40) rfl (by kernel_rfl) (by kernel_rfl) (by kernel_rfl) (fun _ _ _ h => h) (Or.inl ⟨by rfl, ?hy40⟩) (by assumption) ?rest40
          case hy40 => (intro w hSw; (try dsimp only at hSw); go_simp; (first | done | with_reducible rfl))
          simp only [Act.put, List.setIfInBounds_toArray, List.set_cons_zero, List.set_cons_succ, List.getElem_toArray, List.getElem_cons_zero, List.getElem_cons_succ]
          refine wpAnyH_take (i := 8) (v := ?v41) rfl (by kernel_rfl) (by kernel_rfl) (by kernel_rfl) (fun _ _ _ h => h) (Or.inl ⟨by rfl, ?hy41⟩) (by assumption) ?rest41
          case hy41 => (intro w hSw; (try dsimp only at hSw); go_simp; (first | done | with_reducible rfl))
          simp only [Act.put, List.setIfInBounds_toArray, List.set_cons_zero, List.set_cons_succ, List.getElem_toArray, List.getElem_cons_zero, List.getElem_cons_succ]
          refine wpAnyH_take (i := 9) (v := ?v42) rfl (by kernel_rfl) (by kernel_rfl) (by kernel_rfl) (fun _ _ _ h => h) (Or.inl ⟨by rfl, ?hy42⟩) (by assumption) ?rest42
          case hy42 => (intro w hSw; (try dsimp only at hSw); go_simp; (first | done | with_reducible rfl))
          simp only [Act.put, List.setIfInBounds_toArray, List.set_cons_zero, List.set_cons_succ, List.getElem_toArray, List.getElem_cons_zero, List.getElem_cons_succ]
          refine wpAnyH_take (i := 10) (v := ?v43) rfl (by kernel_rfl) (by kernel_rfl) (by kernel_rfl) (fun _ _ _ h => h) (Or.inl ⟨by rfl, ?hy43⟩) (by assumption) ?rest43
          case hy43 => (intro w hSw; (try dsimp only at hSw); go_simp; (first | done | with_reducible rfl))
          simp only [Act.put, List.setIfInBounds_toArray, List.set_cons_zero, List.set_cons_succ, List.getElem_toArray, List.getElem_cons_zero, List.getElem_cons_succ]
          refine wpAnyH_take (i := 11) (v := ?v44) rfl (by kernel_rfl) (by kernel_rfl) (by kernel_rfl) (fun _ _ _ h => h) (Or.inl ⟨by rfl, ?hy44⟩) (by assumption) ?rest44
          case hy44 => (intro w hSw; (try dsimp only at hSw); go_simp; (first | done | with_reducible rfl))
          simp only [Act.put, List.setIfInBounds_toArray, List.set_cons_zero, List.set_cons_succ, List.getElem_toArray, List.getElem_cons_zero, List.getElem_cons_succ]
          refine wpAnyH_ready (rs := [12]) (by kernel_rfl) (by simp) ?_
          refine AllReadyH.cons rfl (fun K hK => ?_) AllReadyH.nil
          simp only [List.getElem_toArray, List.getElem_cons_zero, List.getElem_cons_succ]
          go_simp
          refine hK.out _ _ ⟨(cell_apart HST.out.2 (World.block_lt_of_cell? _ _ (cell_step bdP tr)) (fun e => HNEP.out.1 (Option.some.inj e))).trans (cell_step bdP tr), (cell_apart HST.out.2 (World.block_lt_of_cell? _ _ (cell_step bdP xr)) (fun e => HNEP.out.2.1 (Option.some.inj e))).trans (cell_step bdP xr), (cell_apart HST.out.2 HMD.out.lt HMD.out.pu).trans (cell_step bdP ur), (cell_apart HST.out.2 (World.block_lt_of_cell? _ _ (cell_step bdP sv)) (fun e => HNEP.out.2.2 (Option.some.inj e))).trans (cell_step bdP sv)⟩ (fun hHeld => ?_)
          clear hK K hHeld
          try simp only [Act.put, List.setIfInBounds_toArray, List.set_cons_zero, List.set_cons_succ, List.getElem_toArray, List.getElem_cons_zero, List.getElem_cons_succ]
          refine wpAnyH_done (by kernel_rfl) ?_ _
          have M := HMD.out.addP (xs' := splice zp l (ns.take (k + 1))) HST.out.2 (by have h := HST.out.1; rw [List.set_map_eq, HSS.out] at h; exact h)
          clear HST HMD HSS tr xr ur sv cv cf bdP
          rw [show wr.drew.setCell ⟨gd, l + k, none⟩ (.int .i64 y) = (wr.setCell ⟨gd, l + k, none⟩ (.int .i64 y)).drew from rfl] at M
          generalize (wr.setCell ⟨gd, l + k, none⟩ (.int .i64 y)).drew = wy at *
          have bdM := (Below.refl wy.heap.size wy).drew
          have Md := M.below bdM
          obtain ⟨ge, cdM, e0, hg1M, hg2M⟩ := own_some Md.om (show 0 < zm.length by omega)
          cases e0
          have cv := Md.om.cellAt (l + k) (by omega)
          have cf := Md.om.frozenAt (l + k)
          obtain ⟨y0_, hy0⟩ : ∃ y0_, (splice zm l (ms.take k))[l + k]? = some y0_ := ⟨_, List.getElem?_eq_getElem (show l + k < (splice zm l (ms.take k)).length by rw [length_splice _ _ _ (by rw [List.length_take]; omega)]; omega)⟩
          rw [List.getElem?_map, hy0] at cv
          simp only [Option.map_some] at cv
          obtain ⟨ga, ca, e0, hga1, hga2⟩ := own_some HF6 (show 0 < h - l by omega)
          cases e0
          have sv := HF6.cellAt k (by omega)
          have HNEM := Lib.hid (show ge ≠ NN + 2 ∧ ge ≠ UU ∧ ge ≠ ga from ⟨by omega, by omega, by omega⟩)
          obtain ⟨y, hy⟩ : ∃ y, ms[k]? = some y := ⟨_, List.getElem?_eq_getElem (show k < ms.length by have := HML.out; omega)⟩
          rw [List.getElem?_map, hy] at sv
          simp only [Option.map_some] at sv
          have sv := (M.bb.cell (p := ⟨ga, k, none⟩) (show ga < _ by omega)).trans sv
          have tr := (M.bb.cell (p := ⟨NN + 2, 0, none⟩) (show NN + 2 < _ by omega)).trans t0
          have xr := (M.bb.cell (p := ⟨UU, 1, none⟩) (show UU < _ by omega)).trans HF4
          have ur := M.u1
          have HMD := Lib.hid Md
          have HST := Lib.hid (Md.om.stored (l + k) (.int .i64 y))
          have hss := splice_step zm ms l k y hy (show l + ms.length ≤ zm.length by have := HML.out; omega)
          have HSS := Lib.hid hss
          clear hss hy hy0 Md M
          go_wp2_with fail
          refine wp_region_held_drew (S := fun w' => w'.cell? ⟨NN + 2, 0, none⟩ = some (.int .i64 (l : Int)) ∧ w'.cell? ⟨UU, 1, none⟩ = some (.slice (some ⟨ga, 0, none⟩) (h - l) cn') ∧ w'.cell? ⟨VV, 1, none⟩ = some (.slice (some ⟨ge, 0, none⟩) zm.length km) ∧ w'.cell? ⟨ga, k, none⟩ = some (.int .i64 y)) (by kernel_rfl) ?_ (fun hHeld => ?_)
          · exact ⟨cell_step bdM tr, cell_step bdM xr, cell_step bdM ur, cell_step bdM sv⟩
          refine wpAnyH_take (i := 0) (v := ?v45) rfl (by kernel_rfl) (by kernel_rfl) (by kernel_rfl) (fun _ _ _ h => h) (Or.inl ⟨by rfl, ?hy45⟩) (by assumption) ?rest45
          case hy45 => (intro w hSw; (try dsimp only at hSw); go_simp; (first | done | with_reducible rfl))
          simp only [Act.put, List.setIfInBounds_toArray, List.set_cons_zero, List.set_cons_succ, List.getElem_toArray, List.getElem_cons_zero]
          refine wpAnyH_take (i := 1) (v := ?v46) rfl (by kernel_rfl) (by kernel_rfl) (by kernel_rfl) (fun _ _ _ h => h) (Or.inl ⟨by rfl, ?hy46⟩) (by assumption) ?rest46
          case hy46 => (intro w hSw; (try dsimp only at hSw); go_simp; (first | done | with_reducible rfl))
          simp only [Act.put, List.setIfInBounds_toArray, List.set_cons_zero, List.set_cons_succ, List.getElem_toArray, List.getElem_cons_zero, List.getElem_cons_succ]
          refine wpAnyH_take (i := 2) (v := ?v47) rfl (by kernel_rfl) (by kernel_rfl) (by kernel_rfl) (fun _ _ _ h => h) (Or.inl ⟨by rfl, ?hy47⟩) (by assumption) ?rest47
          case hy47 => (intro w hSw; (try dsimp only at hSw); go_simp; (first | done | with_reducible rfl))
          simp only [Act.put, List.setIfInBounds_toArray, List.set_cons_zero, List.set_cons_succ, List.getElem_toArray, List.getElem_cons_zero, List.getElem_cons_succ]
          refine wpAnyH_take (i := 3) (v := ?v48) rfl (by kernel_rfl) (by kernel_rfl) (by kernel_rfl) (fun _ _ _ h => h) (Or.inl ⟨by rfl, ?hy48⟩) (by assumption) ?rest48
          case hy48 => (intro w hSw; (try dsimp only at hSw); go_simp; (first | done | with_reducible rfl))
          simp only [Act.put, List.setIfInBounds_toArray, List.set_cons_zero, List.set_cons_succ, List.getElem_toArray, List.getElem_cons_zero, List.getElem_cons_succ]
          refine wpAnyH_take (i := 4) (v := ?v49) rfl (by kernel_rfl) (by kernel_rfl) (by kernel_rfl) (fun _ _ _ h => h) (Or.inl ⟨by rfl, ?hy49⟩) (by assumption) ?rest49
          case hy49 => (intro w hSw; (try dsimp only at hSw); go_simp; (first | done | with_reducible rfl))
          simp only [Act.put, List.setIfInBounds_toArray, List.set_cons_zero, List.set_cons_succ, List.getElem_toArray, List.getElem_cons_zero, List.getElem_cons_succ]
          refine wpAnyH_take (i := 5) (v := ?v50) rfl (by kernel_rfl) (by kernel_rfl) (by kernel_rfl) (fun _ _ _ h => h) (Or.inl ⟨by rfl, ?hy50⟩) (by assumption) ?rest50
          case hy50 => (intro w hSw; (try dsimp only at hSw); go_simp; (first | done | with_reducible rfl))
          simp only [Act.put, List.setIfInBounds_toArray, List.set_cons_zero, List.set_cons_succ, List.getElem_toArray, List.getElem_cons_zero, List.getElem_cons_succ]
          refine wpAnyH_take (i := 6) (v := ?v51) rfl (by kernel_rfl) (by kernel_rfl) (by kernel_rfl) (fun _ _ _ h => h) (Or.inl ⟨by rfl, ?hy51⟩) (by assumption) ?rest51
          case hy51 => (intro w hSw; (try dsimp only at hSw); go_simp; (first | done | with_reducible rfl))
          simp only [Act.put, List.setIfInBounds_toArray, List.set_cons_zero, List.set_cons_succ, List.getElem_toArray, List.getElem_cons_zero, List.getElem_cons_succ]
          refine wpAnyH_take (i := 7) (v := ?v52) rfl (by kernel_rfl) (by kernel_rfl) (by kernel_rfl) (fun _ _ _ h => h) (Or.inl ⟨by rfl, ?hy52⟩) (by assumption) ?rest52
          case hy52 => (intro w hSw; (try dsimp only at hSw); go_simp; (first | done | with_reducible rfl))
          simp only [Act.put, List.setIfInBounds_toArray, List.set_cons_zero, List.set_cons_succ, List.getElem_toArray, List.getElem_cons_zero, List.getElem_cons_succ]
          refine wpAnyH_take (i := 8) (v := ?v53) rfl (by kernel_rfl) (by kernel_rfl) (by kernel_rfl) (fun _ _ _ h => h) (Or.inl ⟨by rfl, ?hy53⟩) (by assumption) ?rest53
          case hy53 => (intro w hSw; (try dsimp only at hSw); go_simp; (first | done | with_reducible rfl))
          simp only [Act.put, List.setIfInBounds_toArray, List.set_cons_zero, List.set_cons_succ, List.getElem_toArray, List.getElem_cons_zero, List.getElem_cons_succ]
          refine wpAnyH_take (i := 9) (v := ?v54) rfl (by kernel_rfl) (by kernel_rfl) (by kernel_rfl) (fun _ _ _ h => h) (Or.inl ⟨by rfl, ?hy54⟩) (by assumption) ?rest54
          case hy54 => (intro w hSw; (try dsimp only at hSw); go_simp; (first | done | with_reducible rfl))
          simp only [Act.put, List.setIfInBounds_toArray, List.set_cons_zero, List.set_cons_succ, List.getElem_toArray, List.getElem_cons_zero, List.getElem_cons_succ]
          refine wpAnyH_take (i := 10) (v := ?v55) rfl (by kernel_rfl) (by kernel_rfl) (by kernel_rfl) (fun _ _ _ h => h) (Or.inl ⟨by rfl, ?hy55⟩) (by assumption) ?rest55
          case hy55 => (intro w hSw; (try dsimp only at hSw); go_simp; (first | done | with_reducible rfl))
          simp only [Act.put, List.setIfInBounds_toArray, List.set_cons_zero, List.set_cons_succ, List.getElem_toArray, List.getElem_cons_zero, List.getElem_cons_succ]
          refine wpAnyH_take (i := 11) (v := ?v56) rfl (by kernel_rfl) (by kernel_rfl) (by kernel_rfl) (fun _ _ _ h => h) (Or.inl ⟨by rfl, ?hy56⟩) (by assumption) ?rest56
          case hy56 => (intro w hSw; (try dsimp only at hSw); go_simp; (first | done | with_reducible rfl))
          simp only [Act.put, List.setIfInBounds_toArray, List.set_cons_zero, List.set_cons_succ, List.getElem_toArray, List.getElem_cons_zero, List.getElem_cons_succ]
          refine wpAnyH_ready (rs := [12]) (by kernel_rfl) (by simp) ?_
          refine AllReadyH.cons rfl (fun K hK => ?_) AllReadyH.nil
          simp only [List.getElem_toArray, List.getElem_cons_zero, List.getElem_cons_succ]
          go_simp
          refine hK.out _ _ ⟨(cell_apart HST.out.2 (World.block_lt_of_cell? _ _ (cell_step bdM tr)) (fun e => HNEM.out.1 (Option.some.inj e))).trans (cell_step bdM tr), (cell_apart HST.out.2 (World.block_lt_of_cell? _ _ (cell_step bdM xr)) (fun e => HNEM.out.2.1 (Option.some.inj e))).trans (cell_step bdM xr), (cell_apart HST.out.2 HMD.out.lt HMD.out.mu).trans (cell_step bdM ur), (cell_apart HST.out.2 (World.block_lt_of_cell? _ _ (cell_step bdM sv)) (fun e => HNEM.out.2.2 (Option.some.inj e))).trans (cell_step bdM sv)⟩ (fun hHeld => ?_)
          clear hK K hHeld
          try simp only [Act.put, List.setIfInBounds_toArray, List.set_cons_zero, List.set_cons_succ, List.getElem_toArray, List.getElem_cons_zero, List.getElem_cons_succ]
          refine wpAnyH_done (by kernel_rfl) ?_ _
          have M := HMD.out.addM (ys' := splice zm l (ms.take (k + 1))) HST.out.2 (by have h := HST.out.1; rw [List.set_map_eq, HSS.out] at h; exact h)
          clear HST HMD HSS tr xr ur sv cv cf bdM
          rw [show wy.drew.setCell ⟨ge, l + k, none⟩ (.int .i64 y) = (wy.setCell ⟨ge, l + k, none⟩ (.int .i64 y)).drew from rfl] at M
          generalize (wy.setCell ⟨ge, l + k, none⟩ (.int .i64 y)).drew = wz at *
          clear HNEP HNEM
          have HM := Lib.hid M
          clear M
          go_wp2_with fail
          refine ⟨⟨k + 1, by omega, by go_num, HM.out⟩, ?_⟩
          show h - l - ((k : Int) + 1).toNat < h - l - ((k : Int)).toNat
          omega
        · have hk' : k = h - l := by omega
          subst hk'
          rw [List.take_of_length_le (by rw [HNL.out]; exact Nat.le_refl _), List.take_of_length_le (by rw [HML.out]; exact Nat.le_refl _), HRES.out.1, HRES.out.2] at M
          have ur := M.u0
          have us := M.u1
          have p0 := (M.bb.cell (p := ⟨NN + 3, 0, none⟩) (show NN + 3 < _ by omega)).trans q0
          have p1 := (M.bb.cell (p := ⟨NN + 3, 1, none⟩) (show NN + 3 < _ by omega)).trans q1
          have pf0 := (M.bb.frozen (p := ⟨NN + 3, 0, none⟩) (show NN + 3 < _ by omega)).trans qf0
          have pf1 := (M.bb.frozen (p := ⟨NN + 3, 1, none⟩) (show NN + 3 < _ by omega)).trans qf1
          have HM := Lib.hid M
          have ST := stored2 (.slice gp zp.length kp) (.slice gm zm.length km) p0 p1 pf0 pf1
          have hs0 := ST.1
          have hs1 := ST.2.1
          have HB := Lib.hid ST.2.2.2.2
          have hlp : zp.length = (apP zp zm zg l h rate mom q).length := by rw [← HRES.out.1, length_splice _ _ _ (by rw [HNL.out]; omega)]
          have hlm : zm.length = (apM zm zg l h mom q).length := by rw [← HRES.out.2, length_splice _ _ _ (by rw [HML.out]; omega)]
          have HLP := Lib.hid (And.intro hlp hlm)
          clear M ST hlp hlm
          go_wp2_with fail
          (try simp only [Exit.inBlock, Exit.then])
          refine bodyPost_ret (v := .tuple #[.agg #[.slice gp zp.length kp, .slice gm zm.length km], .bool true]) (by simp [results, Try.results17, hs0, hs1, go_sem]) rfl ?_
          have G := grown_trans (grown_set wr (NN + 3) 0 (.slice gp zp.length kp)) (grown_set _ (NN + 3) 1 (.slice gm zm.length km))
          refine ⟨_, _, rfl, .inr (IntsAt.of_owns HLP.out.1 (row_apart HM.out.op G (fun j e e2 => by cases e; have := (HM.out.op.lt _ e2).1; omega))), .inr (IntsAt.of_owns HLP.out.2 (row_apart HM.out.om G (fun j e e2 => by cases e; have := (HM.out.om.lt _ e2).1; omega))), ?_⟩
          rw [hN]
          exact (A5.trans (HM.out.bb.mono (by omega))).trans (HB.out.mono (by omega))
theorem refApply_any (rate mom q lo hi : Int) (p m g : Value) (zp zm zg : List Int) (hr : Word rate) (ho : Word mom) (wm_ : ∀ z ∈ zm, Word z) (hp : zp.length * 8 ≤ 140737488351232) (hm : zm.length * 8 ≤ 140737488351232) (w : World) (ip : IntsW .i64 w.heap.size w p zp) (im : IntsW .i64 w.heap.size w m zm) (ig : IntsW .i64 w.heap.size w g zg) :
    Calls Try.prog 17 #[.agg #[.int .i64 rate, .int .i64 mom, .int .i64 q], .agg #[p, m], .agg #[.int .i64 lo, .int .i64 hi], g] w (RefApplied (applyOk zp zm zg lo hi) (apPr zp zm zg lo hi rate mom q) (apMr zp zm zg lo hi mom q) w) := by
  cases e : applyOk zp zm zg lo hi
  · have e1 : apPr zp zm zg lo hi rate mom q = zp := by unfold apPr; rw [e]; rfl
    have e2 : apMr zp zm zg lo hi mom q = zm := by unfold apMr; rw [e]; rfl
    rw [e1, e2]
    unfold applyOk at e
    rw [decide_eq_false_iff_not] at e
    by_cases h1 : zp.length = zm.length ∧ 0 ≤ lo ∧ lo ≤ hi ∧ hi ≤ (zp.length : Int)
    · obtain ⟨h1, h2, h3, h4⟩ := h1
      obtain ⟨l, rfl⟩ := Int.eq_ofNat_of_zero_le h2
      obtain ⟨h, rfl⟩ := Int.eq_ofNat_of_zero_le (show 0 ≤ hi by omega)
      exact refApply_no rate mom q l h p m g zp zm zg hr ho wm_ hp hm w ip im ig h1 (by omega) (by omega) (fun h5 => e ⟨h1, by omega, by omega, by omega, by omega⟩)
    · exact refApply_guard rate mom q lo hi p m g zp zm zg w ip im ig (by omega)
  · have e1 : apPr zp zm zg lo hi rate mom q = apP zp zm zg lo.toNat hi.toNat rate mom q := by unfold apPr; rw [e]; rfl
    have e2 : apMr zp zm zg lo hi mom q = apM zm zg lo.toNat hi.toNat mom q := by unfold apMr; rw [e]; rfl
    rw [e1, e2]
    unfold applyOk at e
    rw [decide_eq_true_iff] at e
    obtain ⟨h1, h2, h3, h4, h5⟩ := e
    obtain ⟨l, rfl⟩ := Int.eq_ofNat_of_zero_le h2
    obtain ⟨h, rfl⟩ := Int.eq_ofNat_of_zero_le (show 0 ≤ hi by omega)
    exact refApply_yes rate mom q l h p m g zp zm zg hr ho wm_ hp hm w ip im ig h1 (by omega) (by omega) (by omega)
end Go.Proofs.Ytmffgbmjomaehaa
