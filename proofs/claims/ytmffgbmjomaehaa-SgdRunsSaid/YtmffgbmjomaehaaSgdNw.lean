/- The walk of SgdNexts (begun). -/
import Derived.Test.YtmffgbmjomaehaaSgdT
namespace Go.Proofs.Ytmffgbmjomaehaa
open Go.RowKit
set_option linter.unusedVariables false
/-- what Next gives, in one form: a state of two slices, whose rows are the lists where the lengths are right -/
def NextRows (ok : Bool) (base : Nat) (v u : Value) (xs ys : List Int) (w : World) : Prop :=
  if ok then w.ownsRow base 2 1 v xs.length (xs.map (Value.int .i64)) ∧ w.ownsRow base 2 1 u ys.length (ys.map (Value.int .i64)) else v = .slice none 0 0 ∧ u = .slice none 0 0
theorem NextIs.form {rate mom q : Int} {zp zm zg : List Int} {w w' : World} {e : Ending} (h : NextIs rate mom q zp zm zg w e w') :
    ∃ a n c a' n' c', e = .returned (.tuple #[.agg #[.slice a n c, .slice a' n' c'], .bool (nextOk zp zm zg)]) ∧ NextRows (nextOk zp zm zg) w.heap.size (.slice a n c) (.slice a' n' c') (nextP zp (nextM zm zg mom q) rate q) (nextM zm zg mom q) w' ∧ Below w.heap.size w w' := by
  unfold NextIs at h
  unfold NextRows
  cases hok : nextOk zp zm zg
  · rw [hok] at h
    exact ⟨_, _, _, _, _, _, h.1, ⟨rfl, rfl⟩, h.2⟩
  · rw [hok] at h
    obtain ⟨v, rfl, ⟨vp, vm, rfl, op, om⟩, b⟩ := h
    obtain ⟨a, c, rfl⟩ := own_value op
    obtain ⟨a', c', rfl⟩ := own_value om
    exact ⟨_, _, _, _, _, _, rfl, ⟨op, om⟩, b⟩
theorem next_any (rate mom q : Int) (hr : Word rate) (ho : Word mom) (p m g : Value) (zp zm zg : List Int) (wp_ : ∀ z ∈ zp, Word z) (wm_ : ∀ z ∈ zm, Word z) (hp : zp.length * 8 ≤ 140737488351232) (hm : zm.length * 8 ≤ 140737488351232) (hg : zg.length * 8 ≤ 140737488351232) (w : World) (ip : IntsAt .i64 w.heap.size w p zp) (im : IntsAt .i64 w.heap.size w m zm) (ig : IntsW .i64 w.heap.size w g zg) :
    Calls Try.prog 12 #[.agg #[.int .i64 rate, .int .i64 mom, .int .i64 q], .agg #[p, m], g] w (NextIs rate mom q zp zm zg w) := by
  cases h : nextOk zp zm zg
  · exact next_no rate mom q p m g zp zm zg h w (.inr ip) (.inr im) ig
  · exact next_yes rate mom q hr ho p m g zp zm zg wp_ wm_ hp hm hg h w (.inr ip) (.inr im) im ig
theorem refNext_any (rate mom q : Int) (hr : Word rate) (ho : Word mom) (p m g : Value) (zp zm zg : List Int) (wm_ : ∀ z ∈ zm, Word z) (hp : zp.length * 8 ≤ 140737488351232) (w : World) (ip : IntsW .i64 w.heap.size w p zp) (im : IntsW .i64 w.heap.size w m zm) (ig : IntsW .i64 w.heap.size w g zg) :
    Calls Try.prog 13 #[.agg #[.int .i64 rate, .int .i64 mom, .int .i64 q], .agg #[p, m], g] w (NextIs rate mom q zp zm zg w) := by
  cases h : nextOk zp zm zg
  · exact refNext_no rate mom q p m g zp zm zg h w ip im ig
  · exact refNext_yes rate mom q hr ho p m g zp zm zg wm_ hp h w ip im ig
set_option maxHeartbeats 2000000 in
theorem walk_nexts_no (rate mom q : Int) (p m g : Value) (zp zm zg : List Int) (w : World) (hp : zp.length ≤ maxLen) (hm : zm.length ≤ maxLen) (hg : zg.length ≤ maxLen) (ip : IntsW .i64 w.heap.size w p zp) (im : IntsW .i64 w.heap.size w m zm) (ig : IntsAt .i64 w.heap.size w g zg) (hf : fewB [zp, zm, zg] = false) :
    Calls Try.prog 3 #[.agg #[.int .i64 rate, .int .i64 mom, .int .i64 q], .agg #[p, m], g] w fun e w' => e = .returned (.bool true) ∧ Below w.heap.size w w' := by
  have AL := ((Below.refl w.heap.size w).alloc (Nat.le_refl _) (.cells #[.int .i64 rate, .int .i64 mom, .int .i64 q] 23)).alloc (by simp) (.cells #[p, m] 26)
  have HF := Lib.hid (few3_any p m g zp zm zg hp hm hg _ (ip.later AL) (im.later AL) (.inr (ig.later AL)))
  rw [hf] at HF
  obtain ⟨a1, c1, rfl⟩ := ip.value
  obtain ⟨a2, c2, rfl⟩ := im.value
  obtain ⟨a3, c3, rfl⟩ := ints_value ig
  clear ip im ig hf
  go_enter Try.func3, Try.ntmps3
  go_wp2_with fail
  refine HF.out.mono ?_
  rintro e w1 ⟨rfl, b1⟩
  have b2 := below_step AL b1
  clear AL b1
  go_wp2_with fail
  refine (alive_any _).mono ?_
  rintro e w2 ⟨rfl, b3⟩
  have b4 := below_step b2 b3
  go_wp2_with fail
  go_ret
  exact ⟨rfl, b4⟩
set_option maxHeartbeats 4000000 in
theorem walk_nexts_yes (rate mom q : Int) (hr : Word rate) (ho : Word mom) (p m g : Value) (zp zm zg : List Int) (wp_ : ∀ z ∈ zp, Word z) (wm_ : ∀ z ∈ zm, Word z) (w : World) (hp : zp.length ≤ maxLen) (hm : zm.length ≤ maxLen) (hg : zg.length ≤ maxLen) (hp8 : zp.length * 8 ≤ 140737488351232) (hm8 : zm.length * 8 ≤ 140737488351232) (hg8 : zg.length * 8 ≤ 140737488351232) (ip : IntsW .i64 w.heap.size w p zp) (im : IntsW .i64 w.heap.size w m zm) (ig : IntsAt .i64 w.heap.size w g zg) (hf : fewB [zp, zm, zg] = true) :
    Calls Try.prog 3 #[.agg #[.int .i64 rate, .int .i64 mom, .int .i64 q], .agg #[p, m], g] w fun e w' => e = .returned (.bool true) ∧ Below w.heap.size w w' := by
  have AL := ((Below.refl w.heap.size w).alloc (Nat.le_refl _) (.cells #[.int .i64 rate, .int .i64 mom, .int .i64 q] 23)).alloc (by simp) (.cells #[p, m] 26)
  have HF := Lib.hid (few3_any p m g zp zm zg hp hm hg _ (ip.later AL) (im.later AL) (.inr (ig.later AL)))
  rw [hf] at HF
  have HG1 := Lib.hid (fun W (h : Below w.heap.size w W) => given13_any p m zp zm hp8 hm8 W (ip.later h) (im.later h))
  have HR := Lib.hid (fun W (h : Below w.heap.size w W) => refNext_any rate mom q hr ho p m g zp zm zg wm_ hp8 W (ip.later h) (im.later h) (.inr (ig.later h)))
  have HG2 := Lib.hid (fun W (h : Below w.heap.size w W) => refClone_any g zg hg8 w.heap.size W (.inr (ig.below h)))
  have r0 := cell_new w #[.int .i64 rate, .int .i64 mom, .int .i64 q] 23 0
  have r1 := cell_new w #[.int .i64 rate, .int .i64 mom, .int .i64 q] 23 1
  have r2 := cell_new w #[.int .i64 rate, .int .i64 mom, .int .i64 q] 23 2
  simp only [List.getElem?_toArray, List.getElem?_cons_zero, List.getElem?_cons_succ] at r0 r1 r2
  have s01 := cells_two (w.alloc (.cells #[.int .i64 rate, .int .i64 mom, .int .i64 q] 23)) p m 26
  rw [World.size_alloc] at s01
  have BB := (Below.refl (w.alloc (.cells #[.int .i64 rate, .int .i64 mom, .int .i64 q] 23)).heap.size (w.alloc (.cells #[.int .i64 rate, .int .i64 mom, .int .i64 q] 23))).alloc (Nat.le_refl _) (.cells #[p, m] 26)
  have r0 := cell_step BB r0
  have r1 := cell_step BB r1
  have r2 := cell_step BB r2
  obtain ⟨s0, s1⟩ := s01
  have hz0 : ((w.alloc (.cells #[.int .i64 rate, .int .i64 mom, .int .i64 q] 23)).alloc (.cells #[p, m] 26)).heap.size = w.heap.size + 2 := by simp
  clear BB
  have HIP := Lib.hid ip
  have HIM := Lib.hid im
  obtain ⟨a1, c1, rfl⟩ := ip.value
  obtain ⟨a2, c2, rfl⟩ := im.value
  obtain ⟨a3, c3, rfl⟩ := ints_value ig
  clear ip im ig hf
  go_enter Try.func3, Try.ntmps3
  go_wp2_with fail
  generalize ((w.alloc (.cells #[.int .i64 rate, .int .i64 mom, .int .i64 q] 23)).alloc (.cells #[.slice a1 zp.length c1, .slice a2 zm.length c2] 26)) = W0 at *
  refine HF.out.mono ?_
  rintro e w1 ⟨rfl, b1⟩
  have B1 := below_step AL b1
  have t0 := cell_step b1 r0
  have t1 := cell_step b1 r1
  have t2 := cell_step b1 r2
  have t3 := cell_step b1 s0
  have t4 := cell_step b1 s1
  clear r0 r1 r2 s0 s1
  go_wp2_with fail
  refine (HG1.out _ B1).mono ?_
  rintro e w2 ⟨v2, rfl, ⟨vp, vm, rfl, op, om⟩, b2⟩
  have B2 := below_step B1 b2
  obtain ⟨ap, cp, rfl⟩ := own_value op
  obtain ⟨am, cm, rfl⟩ := own_value om
  have OP := Lib.hid op
  have OM := Lib.hid om
  have OP2 := Lib.hid op
  have OM2 := Lib.hid om
  clear op om
  have u0 := cell_step b2 t0
  have u1 := cell_step b2 t1
  have u2 := cell_step b2 t2
  have u3 := cell_step b2 t3
  have u4 := cell_step b2 t4
  go_wp2_with fail
  refine (HG2.out _ B2).mono ?_
  rintro e w3 ⟨vg, rfl, og, b3⟩
  have B3 := below_step B2 b3
  obtain ⟨ag, cg, rfl⟩ := own_value og
  have OG := Lib.hid og
  have OG3 := Lib.hid og
  clear og
  have al3 := (Below.refl w3.heap.size w3).alloc (Nat.le_refl _) (.cells #[.slice ap zp.length cp, .slice am zm.length cm] 31)
  have k01 := cells_two w3 (.slice ap zp.length cp) (.slice am zm.length cm) 31
  have x3 := below_step b3 al3
  have v0 := cell_step x3 u0
  have v1 := cell_step x3 u1
  have v2 := cell_step x3 u2
  have v3 := cell_step x3 u3
  have v4 := cell_step x3 u4
  have B4 := below_step B3 al3
  have OP4 := Lib.hid (own_below OP.out x3)
  have OM4 := Lib.hid (own_below OM.out x3)
  have OG4 := Lib.hid (own_below OG.out al3)
  have HNX := Lib.hid (next_any rate mom q hr ho (.slice ap zp.length cp) (.slice am zm.length cm) (.slice ag zg.length cg) zp zm zg wp_ wm_ hp8 hm8 hg8 _ (ints_own OP4.out) (ints_own OM4.out) (.inr (ints_own OG4.out)))
  obtain ⟨k0, k1⟩ := k01
  clear u0 u1 u2 u3 u4 t0 t1 t2 t3 t4 OP OM OG
  go_wp2_with fail
  refine HNX.out.mono ?_
  intro e w5 h5
  obtain ⟨an, nn, cn, an', nn', cn', rfl, RN, b5⟩ := h5.form
  have HRN := Lib.hid RN
  clear RN h5 HNX
  have al5 := (Below.refl w5.heap.size w5).alloc (Nat.le_refl _) (.cells #[.slice an nn cn, .slice an' nn' cn'] 31)
  have j01 := cells_two w5 (.slice an nn cn) (.slice an' nn' cn') 31
  have x5 := below_step b5 al5
  have y0 := cell_step x5 v0
  have y1 := cell_step x5 v1
  have y2 := cell_step x5 v2
  have y3 := cell_step x5 v3
  have y4 := cell_step x5 v4
  have B5 := below_step B4 x5
  obtain ⟨j0, j1⟩ := j01
  clear v0 v1 v2 v3 v4
  go_wp2_with fail
  refine (HR.out _ B5).mono ?_
  intro e w6 h6
  obtain ⟨ar, nr, cr, ar', nr', cr', rfl, RR, b6⟩ := h6.form
  have HRR := Lib.hid RR
  clear RR h6
  have al7 := (Below.refl w6.heap.size w6).alloc (Nat.le_refl _) (.cells #[.slice ar nr cr, .slice ar' nr' cr'] 26)
  have l01 := cells_two w6 (.slice ar nr cr) (.slice ar' nr' cr') 26
  have x7 := below_step b6 al7
  have x57 := below_step x5 x7
  have z3 := cell_step x7 y3
  have z4 := cell_step x7 y4
  have k0' := cell_step x57 k0
  have k1' := cell_step x57 k1
  have j0' := cell_step x7 j0
  have j1' := cell_step x7 j1
  obtain ⟨m0, m1⟩ := l01
  have OP7 := Lib.hid (own_below OP4.out x57)
  have OM7 := Lib.hid (own_below OM4.out x57)
  have OG7 := Lib.hid (own_below OG4.out x57)
  have B7 := below_step B5 x7
  clear y0 y1 y2 y3 y4 k0 k1 j0 j1
  go_wp2_with fail
  generalize w6.alloc (.cells #[.slice ar nr cr, .slice ar' nr' cr'] 26) = W7 at *
  go_loopw [13, 39] (fun _ i wr => ∃ (k : Nat) (ys : List Int), k ≤ zg.length ∧ i = .int .i64 k ∧ wr.ownsRow w2.heap.size 2 1 (.slice ag zg.length cg) zg.length (ys.map (Value.int .i64)) ∧ ys.length = zg.length ∧ W7.grownBy wr (Value.slice ag zg.length cg).ownBlock) (fun _ i _ => zg.length - (intOf i).toNat)
  case atStart => exact ⟨0, zg, Nat.zero_le _, rfl, OG7.out, rfl, grown_below (Below.refl _ _) _⟩
  case round =>
    obtain ⟨k, ys, hk, rfl, ov, hyl, gr⟩ := hrel
    by_cases hlt : k < zg.length
    · obtain ⟨gg, cc, e0, hg1, hg2⟩ := own_some ov (by omega)
      cases e0
      have cv1 := ov.cellAt k (by omega)
      have cf1 := ov.frozenAt k
      obtain ⟨y, hy⟩ : ∃ y, ys[k]? = some y := ⟨_, List.getElem?_eq_getElem (show k < ys.length by omega)⟩
      rw [List.getElem?_map, hy] at cv1
      simp only [Option.map_some] at cv1
      have OV := Lib.hid ov
      have GR := Lib.hid gr
      have HYL := Lib.hid hyl
      have HST := Lib.hid (fun x => ov.stored k (.int .i64 x))
      clear ov gr hyl hy z3 z4 k0' k1' j0' j1' m0 m1
      go_wp2_with fail
      refine ⟨⟨k + 1, ys.set k (wrap64 (y + 1)), by omega, by go_num, ?_, by rw [List.length_set]; exact HYL.out, ?_⟩, ?_⟩
      · have h := (HST.out (wrap64 (y + 1))).1
        rw [List.set_map_eq] at h
        exact h
      · exact grown_trans GR.out (HST.out (wrap64 (y + 1))).2
      · show zg.length - ((k : Int) + 1).toNat < zg.length - ((k : Int)).toNat
        omega
    · have hk' : k = zg.length := by omega
      have gb : ∀ j, (Value.slice ag zg.length cg).ownBlock = some j → w2.heap.size ≤ j ∧ j < w3.heap.size := fun j e => OG3.out.lt j e
      have gOP : ∀ j, (Value.slice ag zg.length cg).ownBlock = some j → (Value.slice ap zp.length cp).ownBlock ≠ some j := fun j e1 e2 => rows_apart OP2.out OG3.out (Nat.le_refl _) j e2 e1
      have gOM : ∀ j, (Value.slice ag zg.length cg).ownBlock = some j → (Value.slice am zm.length cm).ownBlock ≠ some j := fun j e1 e2 => rows_apart OM2.out OG3.out (Nat.le_refl _) j e2 e1
      have OPr := row_apart OP7.out gr gOP
      have OMr := row_apart OM7.out gr gOM
      have Br := B7.grown gr B7.size (fun j e => by have := (gb j e).1; have := B2.size; omega)
      have zs2 := B2.size
      have zs3 := b3.size
      have zs4 := al3.size
      have zs5 := b5.size
      have zs6 := b6.size
      have zs8 := al5.size
      have zs9 := al7.size
      have zs57 := x57.size
      have zs7 := x7.size
      have gne : ∀ j, w3.heap.size ≤ j ∨ j < w2.heap.size → (Value.slice ag zg.length cg).ownBlock ≠ some j := fun j h e => by have := gb j e; omega
      have nk0 := (cell_apart (g := w3.heap.size) (o := 0) gr (World.block_lt_of_cell? _ _ k0') (gne _ (by omega))).trans k0'
      have nk1 := (cell_apart (g := w3.heap.size) (o := 1) gr (World.block_lt_of_cell? _ _ k1') (gne _ (by omega))).trans k1'
      have nj0 := (cell_apart (g := w5.heap.size) (o := 0) gr (World.block_lt_of_cell? _ _ j0') (gne _ (by omega))).trans j0'
      have nj1 := (cell_apart (g := w5.heap.size) (o := 1) gr (World.block_lt_of_cell? _ _ j1') (gne _ (by omega))).trans j1'
      have nm0 := (cell_apart (g := w6.heap.size) (o := 0) gr (World.block_lt_of_cell? _ _ m0) (gne _ (by omega))).trans m0
      have nm1 := (cell_apart (g := w6.heap.size) (o := 1) gr (World.block_lt_of_cell? _ _ m1) (gne _ (by omega))).trans m1
      have nz3 := (cell_apart (g := w.heap.size + 1) (o := 0) gr (World.block_lt_of_cell? _ _ z3) (gne _ (by have := AL.size; have := B1.size; have := b2.size; have := b1.size; omega))).trans z3
      have nz4 := (cell_apart (g := w.heap.size + 1) (o := 1) gr (World.block_lt_of_cell? _ _ z4) (gne _ (by have := AL.size; have := B1.size; have := b2.size; have := b1.size; omega))).trans z4
      have HO := Lib.hid (And.intro OPr (And.intro OMr (And.intro Br gr)))
      clear OPr OMr Br gr ov k0' k1' j0' j1' m0 m1 z3 z4 gOP gOM gne gb
      go_wp2_with fail
      have HO2 := HO.out
      obtain ⟨OPr, OMr, Br, gr⟩ := HO2
      have HAL := Lib.hid (alive_any wr.drew)
      refine wp_region_held_drew (S := fun w' => w'.cell? ⟨w3.heap.size, 0, none⟩ = some (.slice ap zp.length cp) ∧ w'.cell? ⟨w3.heap.size, 1, none⟩ = some (.slice am zm.length cm) ∧ w'.cell? ⟨w5.heap.size, 0, none⟩ = some (.slice an nn cn) ∧ w'.cell? ⟨w5.heap.size, 1, none⟩ = some (.slice an' nn' cn') ∧ w'.cell? ⟨w6.heap.size, 0, none⟩ = some (.slice ar nr cr) ∧ w'.cell? ⟨w6.heap.size, 1, none⟩ = some (.slice ar' nr' cr') ∧ w'.cell? ⟨w.heap.size + 1, 0, none⟩ = some (.slice a1 zp.length c1) ∧ w'.cell? ⟨w.heap.size + 1, 1, none⟩ = some (.slice a2 zm.length c2) ∧ Below wr.heap.size wr w') (by kernel_rfl) ?_ (fun hHeld => ?_)
      · exact ⟨nk0, nk1, nj0, nj1, nm0, nm1, nz3, nz4, (Below.refl _ _).drew⟩
      have HSA : Hid (∀ W, Below wr.heap.size wr W → Calls Try.prog 14 #[.agg #[.slice an nn cn, .slice an' nn' cn'], .agg #[.slice ar nr cr, .slice ar' nr' cr']] W fun e w' => e = .returned (.bool true) ∧ Below W.heap.size W w') := by
        refine Lib.hid (fun W h => ?_)
        have RN := HRN.out
        have RR := HRR.out
        unfold NextRows at RN RR
        cases hok : nextOk zp zm zg
        · rw [hok] at RN RR
          obtain ⟨e1, e2⟩ := RN
          obtain ⟨e3, e4⟩ := RR
          rw [e1, e2, e3, e4]
          have e := refSame13_any (.slice none 0 0) (.slice none 0 0) (.slice none 0 0) (.slice none 0 0) [] [] [] [] (by simp) (by simp) (by simp) (by simp) W (.inr IntsAt.nil) (.inr IntsAt.nil) (.inr IntsAt.nil) (.inr IntsAt.nil)
          rw [show sameS [] [] [] [] = true by unfold sameS; rw [sameL_self]; rfl] at e
          exact e
        · rw [hok] at RN RR
          obtain ⟨e1, e2⟩ := RN
          obtain ⟨e3, e4⟩ := RR
          have hh : zp.length = zm.length ∧ zp.length = zg.length := by
            unfold nextOk at hok
            simpa using hok
          have hml : (nextM zm zg mom q).length = zg.length := nextM_length _ _ _ _ (hh.1.symm.trans hh.2)
          have hpl : (nextP zp (nextM zm zg mom q) rate q).length = zp.length := nextP_length _ _ _ _ (hh.2.trans hml.symm)
          have i1 := (ints_own (row_apart (own_below (own_below e1 al5) x7) gr (rows_apart OG3.out e1 zs4))).later h
          have i2 := (ints_own (row_apart (own_below (own_below e2 al5) x7) gr (rows_apart OG3.out e2 zs4))).later h
          have i3 := (ints_own (row_apart (own_below e3 al7) gr (rows_apart OG3.out e3 (by omega)))).later h
          have i4 := (ints_own (row_apart (own_below e4 al7) gr (rows_apart OG3.out e4 (by omega)))).later h
          have e := refSame13_any _ _ _ _ _ _ _ _ (by omega) (by omega) (by omega) (by omega) W (.inr i1) (.inr i2) (.inr i3) (.inr i4)
          unfold sameS at e
          rw [sameL_self, sameL_self] at e
          exact e
      have HSB : Hid (∀ W, Below wr.heap.size wr W → Calls Try.prog 14 #[.agg #[.slice ap zp.length cp, .slice am zm.length cm], .agg #[.slice a1 zp.length c1, .slice a2 zm.length c2]] W fun e w' => e = .returned (.bool true) ∧ Below W.heap.size W w') := by
        refine Lib.hid (fun W h => ?_)
        have e := refSame13_any _ _ _ _ zp zm zp zm (by omega) (by omega) (by omega) (by omega) W (.inr ((ints_own OPr).later h)) (.inr ((ints_own OMr).later h)) ((HIP.out.later Br).later h) ((HIM.out.later Br).later h)
        unfold sameS at e
        rw [sameL_self, sameL_self] at e
        exact e
      have Br9 := Lib.hid Br
      clear OPr OMr Br gr nk0 nk1 nj0 nj1 nm0 nm1 nz3 nz4
      refine wpAnyH_ready (rs := [0]) (by kernel_rfl) (by simp) ?_
      refine AllReadyH.cons rfl (fun K hK => ?_) AllReadyH.nil
      simp only [List.getElem_toArray, List.getElem_cons_zero]
      go_simp
      go_at_call 9
      obtain ⟨h0, h1, h2, h3, h4, h5, h6, h7, h8⟩ := hHeld
      refine HAL.out.mono ?_
      rintro e wa ⟨rfl, c1_⟩
      go_wp2_with fail
      refine hK.out _ _ ⟨cell_step c1_ h0, cell_step c1_ h1, cell_step c1_ h2, cell_step c1_ h3, cell_step c1_ h4, cell_step c1_ h5, cell_step c1_ h6, cell_step c1_ h7, below_step h8 c1_⟩ (fun hHeld => ?_)
      clear hK K h0 h1 h2 h3 h4 h5 h6 h7 h8
      try simp only [Act.put, List.setIfInBounds_toArray, List.set_cons_zero, List.set_cons_succ, List.getElem_toArray, List.getElem_cons_zero, List.getElem_cons_succ]
      refine wpAnyH_take (i := 1) (v := ?v1) rfl (by kernel_rfl) (by kernel_rfl) (by kernel_rfl) (fun _ _ _ h => h) (Or.inl ⟨by rfl, ?hy1⟩) (by assumption) ?rest1
      case hy1 => (intro w hSw; (try dsimp only at hSw); go_simp; (first | done | with_reducible rfl))
      simp only [Act.put, List.setIfInBounds_toArray, List.set_cons_zero, List.set_cons_succ, List.getElem_toArray, List.getElem_cons_zero, List.getElem_cons_succ]
      refine wpAnyH_take (i := 2) (v := ?v2) rfl (by kernel_rfl) (by kernel_rfl) (by kernel_rfl) (fun _ _ _ h => h) (Or.inl ⟨by rfl, ?hy2⟩) (by assumption) ?rest2
      case hy2 => (intro w hSw; (try dsimp only at hSw); go_simp; (first | done | with_reducible rfl))
      simp only [Act.put, List.setIfInBounds_toArray, List.set_cons_zero, List.set_cons_succ, List.getElem_toArray, List.getElem_cons_zero, List.getElem_cons_succ]
      refine wpAnyH_take (i := 3) (v := ?v3) rfl (by kernel_rfl) (by kernel_rfl) (by kernel_rfl) (fun _ _ _ h => h) (Or.inl ⟨by rfl, ?hy3⟩) (by assumption) ?rest3
      case hy3 => (intro w hSw; (try dsimp only at hSw); go_simp; (first | done | with_reducible rfl))
      simp only [Act.put, List.setIfInBounds_toArray, List.set_cons_zero, List.set_cons_succ, List.getElem_toArray, List.getElem_cons_zero, List.getElem_cons_succ]
      refine wpAnyH_take (i := 4) (v := ?v4) rfl (by kernel_rfl) (by kernel_rfl) (by kernel_rfl) (fun _ _ _ h => h) (Or.inl ⟨by rfl, ?hy4⟩) (by assumption) ?rest4
      case hy4 => (intro w hSw; (try dsimp only at hSw); go_simp; (first | done | with_reducible rfl))
      simp only [Act.put, List.setIfInBounds_toArray, List.set_cons_zero, List.set_cons_succ, List.getElem_toArray, List.getElem_cons_zero, List.getElem_cons_succ]
      refine wpAnyH_take (i := 5) (v := ?v5) rfl (by kernel_rfl) (by kernel_rfl) (by kernel_rfl) (fun _ _ _ h => h) (Or.inl ⟨by rfl, ?hy5⟩) (by assumption) ?rest5
      case hy5 => (intro w hSw; (try dsimp only at hSw); go_simp; (first | done | with_reducible rfl))
      simp only [Act.put, List.setIfInBounds_toArray, List.set_cons_zero, List.set_cons_succ, List.getElem_toArray, List.getElem_cons_zero, List.getElem_cons_succ]
      refine wpAnyH_take (i := 6) (v := ?v6) rfl (by kernel_rfl) (by kernel_rfl) (by kernel_rfl) (fun _ _ _ h => h) (Or.inl ⟨by rfl, ?hy6⟩) (by assumption) ?rest6
      case hy6 => (intro w hSw; (try dsimp only at hSw); go_simp; (first | done | with_reducible rfl))
      simp only [Act.put, List.setIfInBounds_toArray, List.set_cons_zero, List.set_cons_succ, List.getElem_toArray, List.getElem_cons_zero, List.getElem_cons_succ]
      refine wpAnyH_take (i := 7) (v := ?v7) rfl (by kernel_rfl) (by kernel_rfl) (by kernel_rfl) (fun _ _ _ h => h) (Or.inl ⟨by rfl, ?hy7⟩) (by assumption) ?rest7
      case hy7 => (intro w hSw; (try dsimp only at hSw); go_simp; (first | done | with_reducible rfl))
      simp only [Act.put, List.setIfInBounds_toArray, List.set_cons_zero, List.set_cons_succ, List.getElem_toArray, List.getElem_cons_zero, List.getElem_cons_succ]
      refine wpAnyH_take (i := 9) (v := ?v8) rfl (by kernel_rfl) (by kernel_rfl) (by kernel_rfl) (fun _ _ _ h => h) (Or.inl ⟨by rfl, ?hy8⟩) (by assumption) ?rest8
      case hy8 => (intro w hSw; (try dsimp only at hSw); go_simp; (first | done | with_reducible rfl))
      simp only [Act.put, List.setIfInBounds_toArray, List.set_cons_zero, List.set_cons_succ, List.getElem_toArray, List.getElem_cons_zero, List.getElem_cons_succ]
      refine wpAnyH_ready (rs := [8]) (by kernel_rfl) (by simp) ?_
      refine AllReadyH.cons rfl (fun K hK => ?_) AllReadyH.nil
      simp only [List.getElem_toArray, List.getElem_cons_zero, List.getElem_cons_succ]
      go_simp
      go_at_call 15
      obtain ⟨h0, h1, h2, h3, h4, h5, h6, h7, h8⟩ := hHeld
      refine (back_any an an' nn nn' cn cn' _).mono ?_
      rintro e wb ⟨rfl, c2_⟩
      go_wp2_with fail
      refine hK.out _ _ ⟨cell_step c2_ h0, cell_step c2_ h1, cell_step c2_ h2, cell_step c2_ h3, cell_step c2_ h4, cell_step c2_ h5, cell_step c2_ h6, cell_step c2_ h7, below_step h8 c2_⟩ (fun hHeld => ?_)
      clear hK K h0 h1 h2 h3 h4 h5 h6 h7 h8
      try simp only [Act.put, List.setIfInBounds_toArray, List.set_cons_zero, List.set_cons_succ, List.getElem_toArray, List.getElem_cons_zero, List.getElem_cons_succ]
      refine wpAnyH_ready (rs := [10]) (by kernel_rfl) (by simp) ?_
      refine AllReadyH.cons rfl (fun K hK => ?_) AllReadyH.nil
      simp only [List.getElem_toArray, List.getElem_cons_zero, List.getElem_cons_succ]
      go_simp
      go_at_call 14
      obtain ⟨h0, h1, h2, h3, h4, h5, h6, h7, h8⟩ := hHeld
      refine (HSA.out _ h8).mono ?_
      rintro e wc ⟨rfl, c3_⟩
      go_wp2_with fail
      refine hK.out _ _ ⟨cell_step c3_ h0, cell_step c3_ h1, cell_step c3_ h2, cell_step c3_ h3, cell_step c3_ h4, cell_step c3_ h5, cell_step c3_ h6, cell_step c3_ h7, below_step h8 c3_⟩ (fun hHeld => ?_)
      clear hK K h0 h1 h2 h3 h4 h5 h6 h7 h8
      try simp only [Act.put, List.setIfInBounds_toArray, List.set_cons_zero, List.set_cons_succ, List.getElem_toArray, List.getElem_cons_zero, List.getElem_cons_succ]
      refine wpAnyH_take (i := 11) (v := ?v9) rfl (by kernel_rfl) (by kernel_rfl) (by kernel_rfl) (fun _ _ _ h => h) (Or.inl ⟨by rfl, ?hy9⟩) (by assumption) ?rest9
      case hy9 => (intro w hSw; (try dsimp only at hSw); go_simp; (first | done | with_reducible rfl))
      simp only [Act.put, List.setIfInBounds_toArray, List.set_cons_zero, List.set_cons_succ, List.getElem_toArray, List.getElem_cons_zero, List.getElem_cons_succ]
      refine wpAnyH_take (i := 12) (v := ?v10) rfl (by kernel_rfl) (by kernel_rfl) (by kernel_rfl) (fun _ _ _ h => h) (Or.inl ⟨by rfl, ?hy10⟩) (by assumption) ?rest10
      case hy10 => (intro w hSw; (try dsimp only at hSw); go_simp; (first | done | with_reducible rfl))
      simp only [Act.put, List.setIfInBounds_toArray, List.set_cons_zero, List.set_cons_succ, List.getElem_toArray, List.getElem_cons_zero, List.getElem_cons_succ]
      refine wpAnyH_take (i := 13) (v := ?v11) rfl (by kernel_rfl) (by kernel_rfl) (by kernel_rfl) (fun _ _ _ h => h) (Or.inl ⟨by rfl, ?hy11⟩) (by assumption) ?rest11
      case hy11 => (intro w hSw; (try dsimp only at hSw); go_simp; (first | done | with_reducible rfl))
      simp only [Act.put, List.setIfInBounds_toArray, List.set_cons_zero, List.set_cons_succ, List.getElem_toArray, List.getElem_cons_zero, List.getElem_cons_succ]
      refine wpAnyH_take (i := 15) (v := ?v12) rfl (by kernel_rfl) (by kernel_rfl) (by kernel_rfl) (fun _ _ _ h => h) (Or.inl ⟨by rfl, ?hy12⟩) (by assumption) ?rest12
      case hy12 => (intro w hSw; (try dsimp only at hSw); go_simp; (first | done | with_reducible rfl))
      simp only [Act.put, List.setIfInBounds_toArray, List.set_cons_zero, List.set_cons_succ, List.getElem_toArray, List.getElem_cons_zero, List.getElem_cons_succ]
      refine wpAnyH_ready (rs := [14]) (by kernel_rfl) (by simp) ?_
      refine AllReadyH.cons rfl (fun K hK => ?_) AllReadyH.nil
      simp only [List.getElem_toArray, List.getElem_cons_zero, List.getElem_cons_succ]
      go_simp
      go_at_call 15
      obtain ⟨h0, h1, h2, h3, h4, h5, h6, h7, h8⟩ := hHeld
      refine (back_any ap am zp.length zm.length cp cm _).mono ?_
      rintro e wd ⟨rfl, c4_⟩
      go_wp2_with fail
      refine hK.out _ _ ⟨cell_step c4_ h0, cell_step c4_ h1, cell_step c4_ h2, cell_step c4_ h3, cell_step c4_ h4, cell_step c4_ h5, cell_step c4_ h6, cell_step c4_ h7, below_step h8 c4_⟩ (fun hHeld => ?_)
      clear hK K h0 h1 h2 h3 h4 h5 h6 h7 h8
      try simp only [Act.put, List.setIfInBounds_toArray, List.set_cons_zero, List.set_cons_succ, List.getElem_toArray, List.getElem_cons_zero, List.getElem_cons_succ]
      refine wpAnyH_ready (rs := [16]) (by kernel_rfl) (by simp) ?_
      refine AllReadyH.cons rfl (fun K hK => ?_) AllReadyH.nil
      simp only [List.getElem_toArray, List.getElem_cons_zero, List.getElem_cons_succ]
      go_simp
      go_at_call 14
      obtain ⟨h0, h1, h2, h3, h4, h5, h6, h7, h8⟩ := hHeld
      refine (HSB.out _ h8).mono ?_
      rintro e we ⟨rfl, c5_⟩
      have BE := below_step h8 c5_
      go_wp2_with fail
      refine hK.out _ _ ⟨cell_step c5_ h0, cell_step c5_ h1, cell_step c5_ h2, cell_step c5_ h3, cell_step c5_ h4, cell_step c5_ h5, cell_step c5_ h6, cell_step c5_ h7, below_step h8 c5_⟩ (fun hHeld => ?_)
      clear hK K h0 h1 h2 h3 h4 h5 h6 h7 h8
      try simp only [Act.put, List.setIfInBounds_toArray, List.set_cons_zero, List.set_cons_succ, List.getElem_toArray, List.getElem_cons_zero, List.getElem_cons_succ]
      refine wpAnyH_take (i := 17) (v := ?v13) rfl (by kernel_rfl) (by kernel_rfl) (by kernel_rfl) (fun _ _ _ h => h) (Or.inl ⟨by rfl, ?hy13⟩) (by assumption) ?rest13
      case hy13 => (intro w hSw; (try dsimp only at hSw); go_simp; (first | done | with_reducible rfl))
      simp only [Act.put, List.setIfInBounds_toArray, List.set_cons_zero, List.set_cons_succ, List.getElem_toArray, List.getElem_cons_zero, List.getElem_cons_succ]
      refine wpAnyH_take (i := 18) (v := ?v14) rfl (by kernel_rfl) (by kernel_rfl) (by kernel_rfl) (fun _ _ _ h => h) (Or.inl ⟨by rfl, ?hy14⟩) (by assumption) ?rest14
      case hy14 => (intro w hSw; (try dsimp only at hSw); go_simp; (first | done | with_reducible rfl))
      simp only [Act.put, List.setIfInBounds_toArray, List.set_cons_zero, List.set_cons_succ, List.getElem_toArray, List.getElem_cons_zero, List.getElem_cons_succ]
      refine wpAnyH_done (by kernel_rfl) ?_ _
      have BF := Br9.out.trans (BE.mono (by have := Br9.out.size; omega))
      go_wp2_with fail
      go_ret
      exact ⟨rfl, BF⟩
theorem walk_nexts (rate mom q : Int) (p m g : Value) (zp zm zg : List Int) (hr : Word rate) (ho : Word mom) (wp_ : ∀ z ∈ zp, Word z) (wm_ : ∀ z ∈ zm, Word z) (_wg : ∀ z ∈ zg, Word z) (w : World) (hp : zp.length ≤ maxLen) (hm : zm.length ≤ maxLen) (hg : zg.length ≤ maxLen) (ip : IntsW .i64 w.heap.size w p zp) (im : IntsW .i64 w.heap.size w m zm) (ig : IntsAt .i64 w.heap.size w g zg) :
    Calls Try.prog 3 #[.agg #[.int .i64 rate, .int .i64 mom, .int .i64 q], .agg #[p, m], g] w fun e w' => e = .returned (.bool true) ∧ Below w.heap.size w w' := by
  cases hf : fewB [zp, zm, zg]
  · exact walk_nexts_no rate mom q p m g zp zm zg w hp hm hg ip im ig hf
  · have h := (fewB_true hf).2
    have h1 := h zp (by simp)
    have h2 := h zm (by simp)
    have h3 := h zg (by simp)
    exact walk_nexts_yes rate mom q hr ho p m g zp zm zg wp_ wm_ w hp hm hg (by omega) (by omega) (by omega) ip im ig hf
end Go.Proofs.Ytmffgbmjomaehaa
