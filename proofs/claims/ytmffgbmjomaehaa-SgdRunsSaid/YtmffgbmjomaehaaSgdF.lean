/- The walk of SgdApplies. -/
import Derived.Test.YtmffgbmjomaehaaSgdE
namespace Go.Proofs.Ytmffgbmjomaehaa
open Go.RowKit
set_option linter.unusedVariables false
theorem cells_three (w : World) (x y z : Value) (e : TypeId) : (w.alloc (.cells #[x, y, z] e)).cell? ⟨w.heap.size, 0, none⟩ = some x ∧ (w.alloc (.cells #[x, y, z] e)).cell? ⟨w.heap.size, 1, none⟩ = some y ∧ (w.alloc (.cells #[x, y, z] e)).cell? ⟨w.heap.size, 2, none⟩ = some z := by
  have r0 := cell_new w #[x, y, z] e 0
  have r1 := cell_new w #[x, y, z] e 1
  have r2 := cell_new w #[x, y, z] e 2
  simp only [List.getElem?_toArray, List.getElem?_cons_zero, List.getElem?_cons_succ] at r0 r1 r2
  exact ⟨r0, r1, r2⟩
theorem apPr_length (zp zm zg : List Int) (lo hi rate mom q : Int) : (apPr zp zm zg lo hi rate mom q).length = zp.length := by
  unfold apPr
  cases e : applyOk zp zm zg lo hi
  · rfl
  · unfold applyOk at e
    rw [decide_eq_true_iff] at e
    obtain ⟨h1, h2, h3, h4, h5⟩ := e
    have hm : (nextM (subL2 zm lo.toNat hi.toNat) zg mom q).length = zg.length := nextM_length _ _ _ _ (by rw [subL2_length _ _ _ (by omega)]; omega)
    show (apP zp zm zg lo.toNat hi.toNat rate mom q).length = zp.length
    unfold apP
    rw [length_splice]
    rw [nextP_length _ _ _ _ (by rw [hm, subL2_length _ _ _ (by omega)]; omega), subL2_length _ _ _ (by omega)]
    omega
theorem apMr_length (zp zm zg : List Int) (lo hi mom q : Int) : (apMr zp zm zg lo hi mom q).length = zm.length := by
  unfold apMr
  cases e : applyOk zp zm zg lo hi
  · rfl
  · unfold applyOk at e
    rw [decide_eq_true_iff] at e
    obtain ⟨h1, h2, h3, h4, h5⟩ := e
    have hm : (nextM (subL2 zm lo.toNat hi.toNat) zg mom q).length = zg.length := nextM_length _ _ _ _ (by rw [subL2_length _ _ _ (by omega)]; omega)
    show (apM zm zg lo.toNat hi.toNat mom q).length = zm.length
    unfold apM
    rw [length_splice]
    rw [hm]
    omega
theorem walk_applies_no (rate mom q lo hi : Int) (p m g : Value) (zp zm zg : List Int) (hr : Word rate) (ho : Word mom) (wp_ : ∀ z ∈ zp, Word z) (wm_ : ∀ z ∈ zm, Word z) (w : World) (hp : zp.length ≤ maxLen) (hm : zm.length ≤ maxLen) (hg : zg.length ≤ maxLen) (ip : IntsW .i64 w.heap.size w p zp) (im : IntsW .i64 w.heap.size w m zm) (ig : IntsW .i64 w.heap.size w g zg) (hf : fewB [zp, zm, zg] = false) :
    Calls Try.prog 4 #[.agg #[.int .i64 rate, .int .i64 mom, .int .i64 q], .agg #[p, m], .agg #[.int .i64 lo, .int .i64 hi, g]] w fun e w' => e = .returned (.bool true) ∧ Below w.heap.size w w' := by
  have BA := (Below.refl w.heap.size w).alloc (Nat.le_refl _) (.cells #[.int .i64 rate, .int .i64 mom, .int .i64 q] 23)
  have r012 := cells_three w (.int .i64 rate) (.int .i64 mom) (.int .i64 q) 23
  obtain ⟨a1, c1, rfl⟩ := ip.value
  obtain ⟨a2, c2, rfl⟩ := im.value
  obtain ⟨a3, c3, rfl⟩ := ig.value
  obtain ⟨WA, hWA⟩ : ∃ WA, WA = w.alloc (.cells #[.int .i64 rate, .int .i64 mom, .int .i64 q] 23) := ⟨_, rfl⟩
  have hzA : WA.heap.size = w.heap.size + 1 := by rw [hWA]; simp
  rw [← hWA] at r012 BA
  have BB := (Below.refl WA.heap.size WA).alloc (Nat.le_refl _) (.cells #[.slice a1 zp.length c1, .slice a2 zm.length c2] 26)
  have s01 := cells_two WA (.slice a1 zp.length c1) (.slice a2 zm.length c2) 26
  obtain ⟨WB, hWB⟩ : ∃ WB, WB = WA.alloc (.cells #[.slice a1 zp.length c1, .slice a2 zm.length c2] 26) := ⟨_, rfl⟩
  have hzB : WB.heap.size = w.heap.size + 2 := by rw [hWB]; simp [hzA]
  rw [← hWB] at s01 BB
  have BC := (Below.refl WB.heap.size WB).alloc (Nat.le_refl _) (.cells #[.int .i64 lo, .int .i64 hi, .slice a3 zg.length c3] 45)
  have t012 := cells_three WB (.int .i64 lo) (.int .i64 hi) (.slice a3 zg.length c3) 45
  have hz0 : (WB.alloc (.cells #[.int .i64 lo, .int .i64 hi, .slice a3 zg.length c3] 45)).heap.size = w.heap.size + 3 := by simp [hzB]
  have r0 := cell_step BC (cell_step BB r012.1)
  have r1 := cell_step BC (cell_step BB r012.2.1)
  have r2 := cell_step BC (cell_step BB r012.2.2)
  have s0 := cell_step BC s01.1
  have s1 := cell_step BC s01.2
  have t0 := t012.1
  have t1 := t012.2.1
  have t2 := t012.2.2
  have AL := (BA.trans (BB.mono (by omega))).trans (BC.mono (by omega))
  rw [hzA] at s0 s1
  rw [hzB] at t0 t1 t2
  subst hWB
  subst hWA
  have HF := Lib.hid (fun W (b : Below w.heap.size w W) => few3_any (.slice a1 zp.length c1) (.slice a2 zm.length c2) (.slice a3 zg.length c3) zp zm zg hp hm hg W (ip.later b) (im.later b) (ig.later b))
  clear BA BB BC r012 s01 t012 hzA hzB
  rw [hf] at HF
  clear ip im ig hf
  go_enter Try.func4, Try.ntmps4
  go_wp2_with fail
  generalize (((w.alloc (.cells #[.int .i64 rate, .int .i64 mom, .int .i64 q] 23)).alloc (.cells #[.slice a1 zp.length c1, .slice a2 zm.length c2] 26)).alloc (.cells #[.int .i64 lo, .int .i64 hi, .slice a3 zg.length c3] 45)) = W0 at *
  refine (HF.out _ AL).mono ?_
  rintro e w1 ⟨rfl, b1⟩
  have B1 := below_step AL b1
  clear r0 r1 r2 s0 s1 t0 t1 t2
  go_wp2_with fail
  refine (alive_any _).mono ?_
  rintro e w2 ⟨rfl, b2⟩
  have B2 := below_step B1 b2
  go_wp2_with fail
  go_ret
  exact ⟨rfl, B2⟩
set_option maxHeartbeats 4000000 in
theorem walk_applies_yes (rate mom q lo hi : Int) (p m g : Value) (zp zm zg : List Int) (hr : Word rate) (ho : Word mom) (wp_ : ∀ z ∈ zp, Word z) (wm_ : ∀ z ∈ zm, Word z) (w : World) (hp : zp.length ≤ maxLen) (hm : zm.length ≤ maxLen) (hg : zg.length ≤ maxLen) (ip : IntsW .i64 w.heap.size w p zp) (im : IntsW .i64 w.heap.size w m zm) (ig : IntsW .i64 w.heap.size w g zg) (hp8 : zp.length * 8 ≤ 140737488351232) (hm8 : zm.length * 8 ≤ 140737488351232) (hg8 : zg.length * 8 ≤ 140737488351232) (hf : fewB [zp, zm, zg] = true) :
    Calls Try.prog 4 #[.agg #[.int .i64 rate, .int .i64 mom, .int .i64 q], .agg #[p, m], .agg #[.int .i64 lo, .int .i64 hi, g]] w fun e w' => e = .returned (.bool true) ∧ Below w.heap.size w w' := by
  have BA := (Below.refl w.heap.size w).alloc (Nat.le_refl _) (.cells #[.int .i64 rate, .int .i64 mom, .int .i64 q] 23)
  have r012 := cells_three w (.int .i64 rate) (.int .i64 mom) (.int .i64 q) 23
  obtain ⟨a1, c1, rfl⟩ := ip.value
  obtain ⟨a2, c2, rfl⟩ := im.value
  obtain ⟨a3, c3, rfl⟩ := ig.value
  obtain ⟨WA, hWA⟩ : ∃ WA, WA = w.alloc (.cells #[.int .i64 rate, .int .i64 mom, .int .i64 q] 23) := ⟨_, rfl⟩
  have hzA : WA.heap.size = w.heap.size + 1 := by rw [hWA]; simp
  rw [← hWA] at r012 BA
  have BB := (Below.refl WA.heap.size WA).alloc (Nat.le_refl _) (.cells #[.slice a1 zp.length c1, .slice a2 zm.length c2] 26)
  have s01 := cells_two WA (.slice a1 zp.length c1) (.slice a2 zm.length c2) 26
  obtain ⟨WB, hWB⟩ : ∃ WB, WB = WA.alloc (.cells #[.slice a1 zp.length c1, .slice a2 zm.length c2] 26) := ⟨_, rfl⟩
  have hzB : WB.heap.size = w.heap.size + 2 := by rw [hWB]; simp [hzA]
  rw [← hWB] at s01 BB
  have BC := (Below.refl WB.heap.size WB).alloc (Nat.le_refl _) (.cells #[.int .i64 lo, .int .i64 hi, .slice a3 zg.length c3] 45)
  have t012 := cells_three WB (.int .i64 lo) (.int .i64 hi) (.slice a3 zg.length c3) 45
  have hz0 : (WB.alloc (.cells #[.int .i64 lo, .int .i64 hi, .slice a3 zg.length c3] 45)).heap.size = w.heap.size + 3 := by simp [hzB]
  have r0 := cell_step BC (cell_step BB r012.1)
  have r1 := cell_step BC (cell_step BB r012.2.1)
  have r2 := cell_step BC (cell_step BB r012.2.2)
  have s0 := cell_step BC s01.1
  have s1 := cell_step BC s01.2
  have t0 := t012.1
  have t1 := t012.2.1
  have t2 := t012.2.2
  have AL := (BA.trans (BB.mono (by omega))).trans (BC.mono (by omega))
  rw [hzA] at s0 s1
  rw [hzB] at t0 t1 t2
  subst hWB
  subst hWA
  have HF := Lib.hid (fun W (b : Below w.heap.size w W) => few3_any (.slice a1 zp.length c1) (.slice a2 zm.length c2) (.slice a3 zg.length c3) zp zm zg hp hm hg W (ip.later b) (im.later b) (ig.later b))
  clear BA BB BC r012 s01 t012 hzA hzB
  have HG := Lib.hid (fun W (b : Below w.heap.size w W) => given13_apart (.slice a1 zp.length c1) (.slice a2 zm.length c2) zp zm hp8 hm8 W (ip.later b) (im.later b))
  have HA := Lib.hid (fun W (b : Below w.heap.size w W) base p' m' op om pm => apply_any rate mom q lo hi p' m' (.slice a3 zg.length c3) zp zm zg base hr ho wp_ wm_ hp8 hm8 hg8 W op om pm (ig.later b))
  have HR := Lib.hid (fun W (b : Below w.heap.size w W) => refApply_any rate mom q lo hi (.slice a1 zp.length c1) (.slice a2 zm.length c2) (.slice a3 zg.length c3) zp zm zg hr ho wm_ hp8 hm8 W (ip.later b) (im.later b) (ig.later b))
  have HLP := Lib.hid (show (apPr zp zm zg lo hi rate mom q).length = zp.length from apPr_length zp zm zg lo hi rate mom q)
  have HLM := Lib.hid (show (apMr zp zm zg lo hi mom q).length = zm.length from apMr_length zp zm zg lo hi mom q)
  rw [hf] at HF
  clear ip im ig hf
  go_enter Try.func4, Try.ntmps4
  go_wp2_with fail
  generalize (((w.alloc (.cells #[.int .i64 rate, .int .i64 mom, .int .i64 q] 23)).alloc (.cells #[.slice a1 zp.length c1, .slice a2 zm.length c2] 26)).alloc (.cells #[.int .i64 lo, .int .i64 hi, .slice a3 zg.length c3] 45)) = W0 at *
  refine (HF.out _ AL).mono ?_
  rintro e w1 ⟨rfl, b1⟩
  have B1 := below_step AL b1
  have r0 := cell_step b1 r0
  have r1 := cell_step b1 r1
  have r2 := cell_step b1 r2
  have s0 := cell_step b1 s0
  have s1 := cell_step b1 s1
  have t0 := cell_step b1 t0
  have t1 := cell_step b1 t1
  have t2 := cell_step b1 t2
  go_wp2_with fail
  refine (HG.out _ B1).mono ?_
  rintro e w3 ⟨vp, vm, rfl, op, om, pm, b3⟩
  have B3 := below_step B1 b3
  obtain ⟨ap, cp, rfl⟩ := own_value op
  obtain ⟨am, cm, rfl⟩ := own_value om
  have al3 := (Below.refl w3.heap.size w3).alloc (Nat.le_refl _) (.cells #[.slice ap zp.length cp, .slice am zm.length cm] 31)
  have u01 := cells_two w3 (.slice ap zp.length cp) (.slice am zm.length cm) 31
  have x3 := below_step b3 al3
  have r0 := cell_step x3 r0
  have r1 := cell_step x3 r1
  have r2 := cell_step x3 r2
  have s0 := cell_step x3 s0
  have s1 := cell_step x3 s1
  have t0 := cell_step x3 t0
  have t1 := cell_step x3 t1
  have t2 := cell_step x3 t2
  obtain ⟨u0, u1⟩ := u01
  have B4 := below_step B3 al3
  have hs3 : (w3.alloc (.cells #[.slice ap zp.length cp, .slice am zm.length cm] 31)).heap.size = w3.heap.size + 1 := by simp
  have OPl : ∀ j, (Value.slice ap zp.length cp).ownBlock = some j → w1.heap.size ≤ j ∧ j < w3.heap.size := fun j e => op.lt j e
  have OMl : ∀ j, (Value.slice am zm.length cm).ownBlock = some j → w1.heap.size ≤ j ∧ j < w3.heap.size := fun j e => om.lt j e
  have HAA := Lib.hid (HA.out _ B4 w1.heap.size (.slice ap zp.length cp) (.slice am zm.length cm) (own_below op al3) (own_below om al3) pm)
  have HPM := Lib.hid pm
  have zB1 := B1.size
  have zb1 := b1.size
  clear op om HA
  generalize hok : applyOk zp zm zg lo hi = ok at *
  generalize hlP : apPr zp zm zg lo hi rate mom q = xp at *
  generalize hlM : apMr zp zm zg lo hi mom q = xm at *
  go_wp2_with fail
  generalize w3.alloc (.cells #[.slice ap zp.length cp, .slice am zm.length cm] 31) = W4 at *
  refine HAA.out.mono ?_
  rintro e w5 ⟨rfl, op5, om5, W1, gr1, gr2⟩
  have OP5 := Lib.hid op5
  have OM5 := Lib.hid om5
  have gneP : ∀ j, w3.heap.size ≤ j ∨ j < w1.heap.size → (Value.slice ap zp.length cp).ownBlock ≠ some j := fun j h e => by have := OPl j e; omega
  have gneM : ∀ j, w3.heap.size ≤ j ∨ j < w1.heap.size → (Value.slice am zm.length cm).ownBlock ≠ some j := fun j h e => by have := OMl j e; omega
  have r0 := (cell_apart (g := w.heap.size) (o := 0) gr1 (World.block_lt_of_cell? _ _ r0) (gneP _ (by omega))).trans r0
  have r1 := (cell_apart (g := w.heap.size) (o := 1) gr1 (World.block_lt_of_cell? _ _ r1) (gneP _ (by omega))).trans r1
  have r2 := (cell_apart (g := w.heap.size) (o := 2) gr1 (World.block_lt_of_cell? _ _ r2) (gneP _ (by omega))).trans r2
  have s0 := (cell_apart (g := w.heap.size + 1) (o := 0) gr1 (World.block_lt_of_cell? _ _ s0) (gneP _ (by omega))).trans s0
  have s1 := (cell_apart (g := w.heap.size + 1) (o := 1) gr1 (World.block_lt_of_cell? _ _ s1) (gneP _ (by omega))).trans s1
  have t0 := (cell_apart (g := w.heap.size + 2) (o := 0) gr1 (World.block_lt_of_cell? _ _ t0) (gneP _ (by omega))).trans t0
  have t1 := (cell_apart (g := w.heap.size + 2) (o := 1) gr1 (World.block_lt_of_cell? _ _ t1) (gneP _ (by omega))).trans t1
  have t2 := (cell_apart (g := w.heap.size + 2) (o := 2) gr1 (World.block_lt_of_cell? _ _ t2) (gneP _ (by omega))).trans t2
  have u0 := (cell_apart (g := w3.heap.size) (o := 0) gr1 (World.block_lt_of_cell? _ _ u0) (gneP _ (by omega))).trans u0
  have u1 := (cell_apart (g := w3.heap.size) (o := 1) gr1 (World.block_lt_of_cell? _ _ u1) (gneP _ (by omega))).trans u1
  have r0 := (cell_apart (g := w.heap.size) (o := 0) gr2 (World.block_lt_of_cell? _ _ r0) (gneM _ (by omega))).trans r0
  have r1 := (cell_apart (g := w.heap.size) (o := 1) gr2 (World.block_lt_of_cell? _ _ r1) (gneM _ (by omega))).trans r1
  have r2 := (cell_apart (g := w.heap.size) (o := 2) gr2 (World.block_lt_of_cell? _ _ r2) (gneM _ (by omega))).trans r2
  have s0 := (cell_apart (g := w.heap.size + 1) (o := 0) gr2 (World.block_lt_of_cell? _ _ s0) (gneM _ (by omega))).trans s0
  have s1 := (cell_apart (g := w.heap.size + 1) (o := 1) gr2 (World.block_lt_of_cell? _ _ s1) (gneM _ (by omega))).trans s1
  have t0 := (cell_apart (g := w.heap.size + 2) (o := 0) gr2 (World.block_lt_of_cell? _ _ t0) (gneM _ (by omega))).trans t0
  have t1 := (cell_apart (g := w.heap.size + 2) (o := 1) gr2 (World.block_lt_of_cell? _ _ t1) (gneM _ (by omega))).trans t1
  have t2 := (cell_apart (g := w.heap.size + 2) (o := 2) gr2 (World.block_lt_of_cell? _ _ t2) (gneM _ (by omega))).trans t2
  have u0 := (cell_apart (g := w3.heap.size) (o := 0) gr2 (World.block_lt_of_cell? _ _ u0) (gneM _ (by omega))).trans u0
  have u1 := (cell_apart (g := w3.heap.size) (o := 1) gr2 (World.block_lt_of_cell? _ _ u1) (gneM _ (by omega))).trans u1
  have B5 := (B4.grown gr1 B4.size (fun j e => by have := OPl j e; omega))
  have B5 := B5.grown gr2 B5.size (fun j e => by have := OMl j e; omega)
  clear op5 om5 gr1 gr2 gneP gneM HAA HPM OPl OMl
  go_wp2_with fail
  refine (HR.out _ B5).mono ?_
  rintro e w6 ⟨v, u, rfl, iv, iu, b6⟩
  have HIV := Lib.hid iv
  have HIU := Lib.hid iu
  obtain ⟨b1_, d1, rfl⟩ := iv.value
  obtain ⟨b2_, d2, rfl⟩ := iu.value
  generalize hn1 : xp.length = n1 at *
  generalize hn2 : xm.length = n2 at *
  have HN1 := Lib.hid hn1
  have HN2 := Lib.hid hn2
  clear hn1 hn2
  have al6 := (Below.refl w6.heap.size w6).alloc (Nat.le_refl _) (.cells #[.slice b1_ n1 d1, .slice b2_ n2 d2] 26)
  have v01 := cells_two w6 (.slice b1_ n1 d1) (.slice b2_ n2 d2) 26
  have x6 := below_step b6 al6
  have u0 := cell_step x6 u0
  have u1 := cell_step x6 u1
  obtain ⟨v0, v1⟩ := v01
  have B7 := below_step B5 x6
  have OP7 := Lib.hid (own_below OP5.out x6)
  have OM7 := Lib.hid (own_below OM5.out x6)
  have HIV := Lib.hid (HIV.out.later al6)
  have HIU := Lib.hid (HIU.out.later al6)
  clear iv iu b6 x6 al6 r0 r1 r2 s0 s1 t0 t1 t2
  go_wp2_with fail
  generalize w6.alloc (.cells #[.slice b1_ n1 d1, .slice b2_ n2 d2] 26) = W7 at *
  have HAL := Lib.hid (alive_any W7.drew)
  have HSA := Lib.hid (fun W (b : Below W7.heap.size W7 W) => (show Calls Try.prog 14 #[.agg #[.slice ap zp.length cp, .slice am zm.length cm], .agg #[.slice b1_ n1 d1, .slice b2_ n2 d2]] W (fun e w' => e = .returned (.bool true) ∧ Below W.heap.size W w') from by
    have hlp := HLP.out
    have hlm := HLM.out
    have hn1 := HN1.out
    have hn2 := HN2.out
    have X := refSame13_any _ _ _ _ xp xm xp xm (by omega) (by omega) (by omega) (by omega) W (.inr ((IntsAt.of_owns (by omega) OP7.out).later b)) (.inr ((IntsAt.of_owns (by omega) OM7.out).later b)) (HIV.out.later b) (HIU.out.later b)
    unfold sameS at X
    rw [sameL_self, sameL_self] at X
    exact X))
  have HB7 := Lib.hid B7
  refine wp_region_held_drew (S := fun w' => w'.cell? ⟨w3.heap.size, 0, none⟩ = some (.slice ap zp.length cp) ∧ w'.cell? ⟨w3.heap.size, 1, none⟩ = some (.slice am zm.length cm) ∧ w'.cell? ⟨w6.heap.size, 0, none⟩ = some (.slice b1_ n1 d1) ∧ w'.cell? ⟨w6.heap.size, 1, none⟩ = some (.slice b2_ n2 d2) ∧ Below W7.heap.size W7 w') (by kernel_rfl) ?_ (fun hHeld => ?_)
  · exact ⟨u0, u1, v0, v1, (Below.refl _ _).drew⟩
  clear u0 u1 v0 v1 B7
  refine wpAnyH_ready (rs := [0]) (by kernel_rfl) (by simp) ?_
  refine AllReadyH.cons rfl (fun K hK => ?_) AllReadyH.nil
  simp only [List.getElem_toArray, List.getElem_cons_zero]
  go_simp
  go_at_call 9
  obtain ⟨h0, h1, h2, h3, h4⟩ := hHeld
  refine (HAL.out).mono ?_
  rintro e w_k0 ⟨rfl, k0⟩
  go_wp2_with fail
  refine hK.out _ _ ⟨cell_step k0 h0, cell_step k0 h1, cell_step k0 h2, cell_step k0 h3, below_step h4 k0⟩ (fun hHeld => ?_)
  clear hK K h0 h1 h2 h3 h4
  try simp only [Act.put, List.setIfInBounds_toArray, List.set_cons_zero, List.set_cons_succ, List.getElem_toArray, List.getElem_cons_zero, List.getElem_cons_succ]
  refine wpAnyH_take (i := 1) (v := ?v1) rfl (by kernel_rfl) (by kernel_rfl) (by kernel_rfl) (fun _ _ _ h => h) (Or.inl ⟨by rfl, ?hy1⟩) (by assumption) ?rest1
  case hy1 => (intro w hSw; (try dsimp only at hSw); go_simp; (first | done | with_reducible rfl))
  simp only [Act.put, List.setIfInBounds_toArray, List.set_cons_zero, List.set_cons_succ, List.getElem_toArray, List.getElem_cons_zero, List.getElem_cons_succ]
  refine wpAnyH_take (i := 2) (v := ?v2) rfl (by kernel_rfl) (by kernel_rfl) (by kernel_rfl) (fun _ _ _ h => h) (Or.inl ⟨by rfl, ?hy2⟩) (by assumption) ?rest2
  case hy2 => (intro w hSw; (try dsimp only at hSw); go_simp; (first | done | with_reducible rfl))
  simp only [Act.put, List.setIfInBounds_toArray, List.set_cons_zero, List.set_cons_succ, List.getElem_toArray, List.getElem_cons_zero, List.getElem_cons_succ]
  refine wpAnyH_take (i := 3) (v := ?v3) rfl (by kernel_rfl) (by kernel_rfl) (by kernel_rfl) (fun _ _ _ h => h) (Or.inl ⟨by rfl, ?hy3⟩) (by assumption) ?rest3
  case hy3 => (intro w hSw; (try dsimp only at hSw); go_simp; (first | done | with_reducible rfl))
  simp only [Act.put, List.setIfInBounds_toArray, List.set_cons_zero, List.set_cons_succ, List.getElem_toArray, List.getElem_cons_zero, List.getElem_cons_succ]
  refine wpAnyH_take (i := 4) (v := ?v4) rfl (by kernel_rfl) (by kernel_rfl) (by kernel_rfl) (fun _ _ _ h => h) (Or.inl ⟨by rfl, ?hy4⟩) (by assumption) ?rest4
  case hy4 => (intro w hSw; (try dsimp only at hSw); go_simp; (first | done | with_reducible rfl))
  simp only [Act.put, List.setIfInBounds_toArray, List.set_cons_zero, List.set_cons_succ, List.getElem_toArray, List.getElem_cons_zero, List.getElem_cons_succ]
  refine wpAnyH_take (i := 5) (v := ?v5) rfl (by kernel_rfl) (by kernel_rfl) (by kernel_rfl) (fun _ _ _ h => h) (Or.inl ⟨by rfl, ?hy5⟩) (by assumption) ?rest5
  case hy5 => (intro w hSw; (try dsimp only at hSw); go_simp; (first | done | with_reducible rfl))
  simp only [Act.put, List.setIfInBounds_toArray, List.set_cons_zero, List.set_cons_succ, List.getElem_toArray, List.getElem_cons_zero, List.getElem_cons_succ]
  refine wpAnyH_take (i := 6) (v := ?v6) rfl (by kernel_rfl) (by kernel_rfl) (by kernel_rfl) (fun _ _ _ h => h) (Or.inl ⟨by rfl, ?hy6⟩) (by assumption) ?rest6
  case hy6 => (intro w hSw; (try dsimp only at hSw); go_simp; (first | done | with_reducible rfl))
  simp only [Act.put, List.setIfInBounds_toArray, List.set_cons_zero, List.set_cons_succ, List.getElem_toArray, List.getElem_cons_zero, List.getElem_cons_succ]
  refine wpAnyH_take (i := 7) (v := ?v7) rfl (by kernel_rfl) (by kernel_rfl) (by kernel_rfl) (fun _ _ _ h => h) (Or.inl ⟨by rfl, ?hy7⟩) (by assumption) ?rest7
  case hy7 => (intro w hSw; (try dsimp only at hSw); go_simp; (first | done | with_reducible rfl))
  simp only [Act.put, List.setIfInBounds_toArray, List.set_cons_zero, List.set_cons_succ, List.getElem_toArray, List.getElem_cons_zero, List.getElem_cons_succ]
  refine wpAnyH_take (i := 9) (v := ?v8) rfl (by kernel_rfl) (by kernel_rfl) (by kernel_rfl) (fun _ _ _ h => h) (Or.inl ⟨by rfl, ?hy8⟩) (by assumption) ?rest8
  case hy8 => (intro w hSw; (try dsimp only at hSw); go_simp; (first | done | with_reducible rfl))
  simp only [Act.put, List.setIfInBounds_toArray, List.set_cons_zero, List.set_cons_succ, List.getElem_toArray, List.getElem_cons_zero, List.getElem_cons_succ]
  refine wpAnyH_ready (rs := [8]) (by kernel_rfl) (by simp) ?_
  refine AllReadyH.cons rfl (fun K hK => ?_) AllReadyH.nil
  simp only [List.getElem_toArray, List.getElem_cons_zero, List.getElem_cons_succ]
  go_simp
  go_at_call 15
  obtain ⟨h0, h1, h2, h3, h4⟩ := hHeld
  refine (back_any ap am zp.length zm.length cp cm _).mono ?_
  rintro e w_k1 ⟨rfl, k1⟩
  go_wp2_with fail
  refine hK.out _ _ ⟨cell_step k1 h0, cell_step k1 h1, cell_step k1 h2, cell_step k1 h3, below_step h4 k1⟩ (fun hHeld => ?_)
  clear hK K h0 h1 h2 h3 h4
  try simp only [Act.put, List.setIfInBounds_toArray, List.set_cons_zero, List.set_cons_succ, List.getElem_toArray, List.getElem_cons_zero, List.getElem_cons_succ]
  refine wpAnyH_ready (rs := [10]) (by kernel_rfl) (by simp) ?_
  refine AllReadyH.cons rfl (fun K hK => ?_) AllReadyH.nil
  simp only [List.getElem_toArray, List.getElem_cons_zero, List.getElem_cons_succ]
  go_simp
  go_at_call 14
  obtain ⟨h0, h1, h2, h3, h4⟩ := hHeld
  refine (HSA.out _ h4).mono ?_
  rintro e w_k2 ⟨rfl, k2⟩
  have BE := below_step h4 k2
  go_wp2_with fail
  refine hK.out _ _ ⟨cell_step k2 h0, cell_step k2 h1, cell_step k2 h2, cell_step k2 h3, below_step h4 k2⟩ (fun hHeld => ?_)
  clear hK K h0 h1 h2 h3 h4
  try simp only [Act.put, List.setIfInBounds_toArray, List.set_cons_zero, List.set_cons_succ, List.getElem_toArray, List.getElem_cons_zero, List.getElem_cons_succ]
  refine wpAnyH_take (i := 11) (v := ?v9) rfl (by kernel_rfl) (by kernel_rfl) (by kernel_rfl) (fun _ _ _ h => h) (Or.inl ⟨by rfl, ?hy9⟩) (by assumption) ?rest9
  case hy9 => (intro w hSw; (try dsimp only at hSw); go_simp; (first | done | with_reducible rfl))
  simp only [Act.put, List.setIfInBounds_toArray, List.set_cons_zero, List.set_cons_succ, List.getElem_toArray, List.getElem_cons_zero, List.getElem_cons_succ]
  refine wpAnyH_take (i := 12) (v := ?v10) rfl (by kernel_rfl) (by kernel_rfl) (by kernel_rfl) (fun _ _ _ h => h) (Or.inl ⟨by rfl, ?hy10⟩) (by assumption) ?rest10
  case hy10 => (intro w hSw; (try dsimp only at hSw); go_simp; (first | done | with_reducible rfl))
  simp only [Act.put, List.setIfInBounds_toArray, List.set_cons_zero, List.set_cons_succ, List.getElem_toArray, List.getElem_cons_zero, List.getElem_cons_succ]
  refine wpAnyH_done (by kernel_rfl) ?_ _
  have BF := HB7.out.trans (BE.mono (by have := HB7.out.size; omega))
  go_wp2_with fail
  go_ret
  exact ⟨rfl, BF⟩
theorem walk_applies (rate mom q lo hi : Int) (p m g : Value) (zp zm zg : List Int) (hr : Word rate) (ho : Word mom) (wp_ : ∀ z ∈ zp, Word z) (wm_ : ∀ z ∈ zm, Word z) (w : World) (hp : zp.length ≤ maxLen) (hm : zm.length ≤ maxLen) (hg : zg.length ≤ maxLen) (ip : IntsW .i64 w.heap.size w p zp) (im : IntsW .i64 w.heap.size w m zm) (ig : IntsW .i64 w.heap.size w g zg) :
    Calls Try.prog 4 #[.agg #[.int .i64 rate, .int .i64 mom, .int .i64 q], .agg #[p, m], .agg #[.int .i64 lo, .int .i64 hi, g]] w fun e w' => e = .returned (.bool true) ∧ Below w.heap.size w w' := by
  cases hf : fewB [zp, zm, zg]
  · exact walk_applies_no rate mom q lo hi p m g zp zm zg hr ho wp_ wm_ w hp hm hg ip im ig hf
  · have h := (fewB_true hf).2
    have h1 := h zp (by simp)
    have h2 := h zm (by simp)
    have h3 := h zg (by simp)
    exact walk_applies_yes rate mom q lo hi p m g zp zm zg hr ho wp_ wm_ w hp hm hg ip im ig (by omega) (by omega) (by omega) hf
end Go.Proofs.Ytmffgbmjomaehaa
