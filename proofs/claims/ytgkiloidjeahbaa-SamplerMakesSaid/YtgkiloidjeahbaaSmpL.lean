/- Layer 12: SamplerMakes. -/
import Derived.Test.YtgkiloidjeahbaaSmpK
namespace Go.Proofs.Ytgkiloidjeahbaa
open Go.RowKit
set_option linter.unusedVariables false
theorem elemU : Elem Try.prog 22 36 (.int .u64 0) 1 8 := ⟨Try.underlying22, info_parts (by kernel_rfl), rfl, by decide⟩
set_option maxHeartbeats 1000000 in
theorem walk_makes_few (n size steps : Int) (t : Int) (v : Value) (zs : List Int) (w : World) (hv : IntsW .u64 w.heap.size w v zs) (h : ¬ (n ≤ 60 ∧ steps ≤ 60 ∧ (zs.length : Int) ≤ 4000)) :
    Calls Try.prog 3 #[.agg #[.int .i64 n, .int .i64 size, .int .i64 steps, v], .int .i64 t] w fun e w' => e = .returned (.bool true) ∧ Below w.heap.size w w' := by
  have AL := (Below.refl w.heap.size w).alloc (Nat.le_refl _) (.cells #[.int .i64 n, .int .i64 size, .int .i64 steps, v] 24)
  have HF := Lib.hid (few_no n size steps v zs _ (hv.later AL) h)
  have R0 := Four.new w (.int .i64 n) (.int .i64 size) (.int .i64 steps) v 24
  obtain ⟨r0, r1, r2, r3, -, -, -, -⟩ := R0
  have HA := Lib.hid AL
  obtain ⟨a, c, rfl⟩ := hv.value
  clear hv h AL
  go_enter Try.func3, Try.ntmps3
  go_wp2_with fail
  refine HF.out.mono ?_
  rintro e w1 ⟨rfl, b1⟩
  have B1 := Lib.hid (below_step HA.out b1)
  clear b1 r0 r1 r2 r3 HF HA
  go_wp2_with fail
  refine (alive_any _).mono ?_
  rintro e w2 ⟨rfl, b2⟩
  have B2 := Lib.hid (below_step B1.out b2)
  clear b2
  go_wp2_with fail
  go_ret
  exact ⟨rfl, B2.out⟩
set_option maxHeartbeats 4000000 in
theorem walk_makes_no (n size steps : Int) (t : Int) (ht : -9223372036854775808 ≤ t ∧ t ≤ 9223372036854775807) (v : Value) (zs : List Int) (hz : ∀ z ∈ zs, 0 ≤ z ∧ z < 18446744073709551616) (w : World) (hv : IntsW .u64 w.heap.size w v zs) (h1 : n ≤ 60) (h2 : steps ≤ 60) (h3 : zs.length ≤ 4000) (hc : codeS n size steps zs.length ≠ 0) :
    Calls Try.prog 3 #[.agg #[.int .i64 n, .int .i64 size, .int .i64 steps, v], .int .i64 t] w fun e w' => e = .returned (.bool true) ∧ Below w.heap.size w w' := by
  have AL := (Below.refl w.heap.size w).alloc (Nat.le_refl _) (.cells #[.int .i64 n, .int .i64 size, .int .i64 steps, v] 24)
  have HF := Lib.hid (few_yes n size steps v zs _ (hv.later AL) h1 h2 h3)
  have R0 := Four.new w (.int .i64 n) (.int .i64 size) (.int .i64 steps) v 24
  obtain ⟨r0, r1, r2, r3, -, -, -, -⟩ := R0
  have HA := Lib.hid AL
  have HV := Lib.hid (hv.later AL)
  have HVX := Lib.hid (fun W (h : Below w.heap.size w W) => (hv.below h).grow h.size)
  have HSRC := Lib.hid (fun W (h : Below w.heap.size w W) => (IntsW.src (hv.below h)).imp (fun ⟨x, y⟩ => And.intro x (show zs.map (Value.int .u64) = [] by rw [y]; rfl)) id)
  obtain ⟨a, c, rfl⟩ := hv.value
  clear hv AL
  go_enter Try.func3, Try.ntmps3
  go_wp2_with fail
  refine HF.out.mono ?_
  rintro e w1 ⟨rfl, b1⟩
  have B1 := Lib.hid (below_step HA.out b1)
  have V1 := Lib.hid (HV.out.later b1)
  have r0 := cell_step b1 r0
  have r1 := cell_step b1 r1
  have r2 := cell_step b1 r2
  have r3 := cell_step b1 r3
  have hsz1 : w.heap.size + 1 ≤ w1.heap.size := by have := b1.size; simp at this; omega
  have al2 := (Below.refl w1.heap.size w1).alloc (Nat.le_refl _) (.cells #[] 36)
  have O2 := Lib.hid (World.ownsRow_made (base := w1.heap.size) (e := 36) (size := 1) w1 #[] 0 (Nat.le_refl _) (Nat.zero_le _) (by simp))
  have HS2 := Lib.hid (show w1.heap.size ≤ (w1.alloc (.cells #[] 36)).heap.size by simp)
  have B2 := Lib.hid (below_step B1.out al2)
  have SRC := Lib.hid (HSRC.out _ B2.out)
  have V2 := Lib.hid (V1.out.later al2)
  have k3 := cell_step al2 r3
  clear b1 HF HA HV HSRC V1
  go_upto_region 4 with (at_builtin; refine append_list elemU rfl _ _ rfl rfl rfl O2.out (by simp) SRC.out ints_one ?_ ?_ HS2.out ?_; (unfold maxLen; omega); omega; intro v' w3 ho' hg'; have O3 := Lib.hid ho'; have D3 := Lib.hid (al2.grown hg' HS2.out (fun q e => (O2.out.lt q e).1)); clear ho' hg')
  have O3 := Lib.hid (show w3.ownsRow w1.heap.size 36 1 v' zs.length (zs.map (Value.int .u64)) by simpa using O3.out)
  have r0 := cell_step D3.out r0
  have r1 := cell_step D3.out r1
  have r2 := cell_step D3.out r2
  have r3 := cell_step D3.out r3
  have B3 := Lib.hid (below_step B1.out D3.out)
  have V3 := Lib.hid (V2.out.later (Below.refl _ _))
  clear SRC V2 V3 B2 O2 al2 HS2 k3
  obtain ⟨ao, co, rfl⟩ := own_value O3.out
  have I3 := Lib.hid (IntsAt.of_owns rfl O3.out)
  have hsz3 := D3.out.size
  go_wp2_with fail
  refine (New_no n size steps (by omega) (by omega) _ zs _ (.inr I3.out) hc).mono ?_
  rintro e w4 ⟨rfl, b4⟩
  have r0 := cell_step b4 r0
  have r1 := cell_step b4 r1
  have r2 := cell_step b4 r2
  have r3 := cell_step b4 r3
  have O4 := Lib.hid (own_below O3.out b4)
  have B4 := Lib.hid (below_step B3.out b4)
  have V4 := Lib.hid (HVX.out w4 B4.out)
  clear b4 O3 B3 I3 D3
  go_wp2_with fail
  refine (RefNew_no n size steps (by omega) (by omega) _ zs _ V4.out hc).mono ?_
  rintro e w5 ⟨rfl, b5⟩
  have al5 := (Below.refl w5.heap.size w5).alloc (Nat.le_refl _) (.cells #[.int .i64 0, .int .i64 0, .int .i64 0, .slice none 0 0] 33)
  have O5 := Lib.hid (own_below (own_below O4.out b5) al5)
  have B5 := Lib.hid (below_step (below_step B4.out b5) al5)
  have g0 : (codeS n size steps zs.length != 0) = true := by simpa using hc
  clear b5 al5 O4 B4 V4 r0 r1 r2 r3 HVX hc
  generalize codeS n size steps zs.length = cd at *
  go_upto_region 6 with fail
  generalize (w5.alloc (.cells #[.int .i64 0, .int .i64 0, .int .i64 0, .slice none 0 0] 33)) = W5 at *
  generalize w5.heap.size = U at *
  have G0 := Lib.hid (World.grownBy.refl W5 (Value.slice ao zs.length co).ownBlock)
  go_wp2_with fail
  go_loopw [10, 45] (fun _ iv wr => ∃ i : Nat, ∃ ys : List Int, i ≤ zs.length ∧ iv = .int .i64 i ∧ ys.length = zs.length ∧ Hid (wr.ownsRow w1.heap.size 36 1 (.slice ao zs.length co) zs.length (ys.map (Value.int .u64))) ∧ Hid (W5.grownBy wr (Value.slice ao zs.length co).ownBlock)) (fun _ iv _ => zs.length - (intOf iv).toNat)
  case atStart => exact ⟨0, zs, Nat.zero_le _, rfl, rfl, O5, G0⟩
  case round =>
    obtain ⟨i, ys, hi, rfl, hys, HO, HG⟩ := hrel
    have HYS := Lib.hid hys
    clear hys
    by_cases hlt : i < zs.length
    · obtain ⟨g, c', e0, hg1, hg2⟩ := own_some HO.out (by omega)
      obtain ⟨y, hy⟩ : ∃ y, ys[i]? = some y := ⟨_, List.getElem?_eq_getElem (by rw [HYS.out]; exact hlt)⟩
      cases e0
      have cg := HO.out.cellAt i (by omega)
      rw [List.getElem?_map, hy, Option.map_some] at cg
      have fg := HO.out.frozenAt i
      have HY := Lib.hid hy
      clear hy
      have st := HO.out.stored i (.int .u64 (IntKind.u64.wrap (y + 1)))
      rw [← List.map_set] at st
      have ST := Lib.hid st
      clear st
      go_wp2_with fail
      go_roundw
      case rel => exact ⟨i + 1, ys.set i (IntKind.u64.wrap (y + 1)), by omega, by go_num, by rw [List.length_set]; exact HYS.out, Lib.hid ST.out.1, Lib.hid (grown_trans HG.out ST.out.2)⟩
      case measure => simp [intOf]; omega
    · have hie : i = zs.length := by omega
      clear hlt hi
      subst hie
      have B9 := Lib.hid (B5.out.grown HG.out B5.out.size (fun q e => by have := (O5.out.lt q e).1; omega))
      clear HO HG O5 G0 B5
      go_wp2_with fail
      refine (alive_any _).mono ?_
      rintro e w6 ⟨rfl, b6⟩
      have B6 := Lib.hid (below_step B9.out b6)
      clear b6
      go_wp2_with fail
      go_ret
      exact ⟨by first | rfl | (simp; done), B6.out⟩
set_option maxHeartbeats 4000000 in
theorem walk_makes_yes (n size steps : Int) (t : Int) (ht : -9223372036854775808 ≤ t ∧ t ≤ 9223372036854775807) (v : Value) (zs : List Int) (hz : ∀ z ∈ zs, 0 ≤ z ∧ z < 18446744073709551616) (w : World) (hv : IntsW .u64 w.heap.size w v zs) (h1 : n ≤ 60) (h2 : steps ≤ 60) (h3 : zs.length ≤ 4000) (hc : codeS n size steps zs.length = 0) :
    Calls Try.prog 3 #[.agg #[.int .i64 n, .int .i64 size, .int .i64 steps, v], .int .i64 t] w fun e w' => e = .returned (.bool true) ∧ Below w.heap.size w w' := by
  obtain ⟨n, size, steps, rfl, rfl, rfl, hok⟩ := code_ok hc
  clear hc
  have AL := (Below.refl w.heap.size w).alloc (Nat.le_refl _) (.cells #[.int .i64 n, .int .i64 size, .int .i64 steps, v] 24)
  have HF := Lib.hid (few_yes n size steps v zs _ (hv.later AL) h1 h2 h3)
  have R0 := Four.new w (.int .i64 n) (.int .i64 size) (.int .i64 steps) v 24
  obtain ⟨r0, r1, r2, r3, -, -, -, -⟩ := R0
  have HA := Lib.hid AL
  have HV := Lib.hid (hv.later AL)
  have HVX := Lib.hid (fun W (h : Below w.heap.size w W) => (hv.below h).grow h.size)
  have HSRC := Lib.hid (fun W (h : Below w.heap.size w W) => (IntsW.src (hv.below h)).imp (fun ⟨x, y⟩ => And.intro x (show zs.map (Value.int .u64) = [] by rw [y]; rfl)) id)
  obtain ⟨a, c, rfl⟩ := hv.value
  clear hv AL
  go_enter Try.func3, Try.ntmps3
  go_wp2_with fail
  refine HF.out.mono ?_
  rintro e w1 ⟨rfl, b1⟩
  have B1 := Lib.hid (below_step HA.out b1)
  have V1 := Lib.hid (HV.out.later b1)
  have r0 := cell_step b1 r0
  have r1 := cell_step b1 r1
  have r2 := cell_step b1 r2
  have r3 := cell_step b1 r3
  have hsz1 : w.heap.size + 1 ≤ w1.heap.size := by have := b1.size; simp at this; omega
  have al2 := (Below.refl w1.heap.size w1).alloc (Nat.le_refl _) (.cells #[] 36)
  have O2 := Lib.hid (World.ownsRow_made (base := w1.heap.size) (e := 36) (size := 1) w1 #[] 0 (Nat.le_refl _) (Nat.zero_le _) (by simp))
  have HS2 := Lib.hid (show w1.heap.size ≤ (w1.alloc (.cells #[] 36)).heap.size by simp)
  have B2 := Lib.hid (below_step B1.out al2)
  have SRC := Lib.hid (HSRC.out _ B2.out)
  have V2 := Lib.hid (V1.out.later al2)
  have k3 := cell_step al2 r3
  clear b1 HF HA HV HSRC V1
  go_upto_region 4 with (at_builtin; refine append_list elemU rfl _ _ rfl rfl rfl O2.out (by simp) SRC.out ints_one ?_ ?_ HS2.out ?_; (unfold maxLen; omega); omega; intro v' w3 ho' hg'; have O3 := Lib.hid ho'; have D3 := Lib.hid (al2.grown hg' HS2.out (fun q e => (O2.out.lt q e).1)); clear ho' hg')
  have O3 := Lib.hid (show w3.ownsRow w1.heap.size 36 1 v' zs.length (zs.map (Value.int .u64)) by simpa using O3.out)
  have r0 := cell_step D3.out r0
  have r1 := cell_step D3.out r1
  have r2 := cell_step D3.out r2
  have r3 := cell_step D3.out r3
  have B3 := Lib.hid (below_step B1.out D3.out)
  have V3 := Lib.hid (V2.out.later (Below.refl _ _))
  clear SRC V2 V3 B2 O2 al2 HS2 k3
  obtain ⟨ao, co, rfl⟩ := own_value O3.out
  have I3 := Lib.hid (IntsAt.of_owns rfl O3.out)
  have hsz3 := D3.out.size
  go_wp2_with fail
  have HOK := Lib.hid hok
  have HR := Lib.hid (hok.right zs)
  clear hok
  refine (New_yes n size steps _ zs hz (by omega) HOK.out _ (.inr I3.out)).mono ?_
  rintro e w4 ⟨b, rfl, hb, s4, b4⟩
  have r0 := cell_step b4 r0
  have r1 := cell_step b4 r1
  have r2 := cell_step b4 r2
  have r3 := cell_step b4 r3
  have O4 := Lib.hid (own_below O3.out b4)
  have B4 := Lib.hid (below_step B3.out b4)
  have S4 := Lib.hid s4
  have V4 := Lib.hid (HVX.out w4 B4.out)
  have hgb : ∀ q, (Value.slice ao zs.length co).ownBlock = some q → q < b := fun q e => Nat.lt_of_lt_of_le (O3.out.lt q e).2 hb
  have HGB := Lib.hid hgb
  clear b4 O3 B3 I3 D3 s4 hgb
  go_wp2_with fail
  refine (RefNew_yes n size steps _ zs hz (by omega) HOK.out _ V4.out).mono ?_
  rintro e w5 ⟨v2, rfl, l5, b5⟩
  obtain ⟨a2, k2, c2, rfl⟩ : ∃ a k c, v2 = .slice a k c := by obtain ⟨us, h1, h2, h3⟩ := l5; obtain ⟨a, c, e⟩ := own_value h2; exact ⟨a, _, c, e⟩
  have al5 := (Below.refl w5.heap.size w5).alloc (Nat.le_refl _) (.cells #[.int .i64 n, .int .i64 size, .int .i64 steps, .slice a2 k2 c2] 33)
  have O5 := Lib.hid (own_below (own_below O4.out b5) al5)
  have B5 := Lib.hid (below_step (below_step B4.out b5) al5)
  have S5 := Lib.hid ((S4.out.later b5).later al5)
  have L5 := Lib.hid (l5.later al5)
  have F5 := Lib.hid (Four.new w5 (.int .i64 n) (.int .i64 size) (.int .i64 steps) (.slice a2 k2 c2) 33)
  have hb5 : b < w4.heap.size := S4.out.1
  have hs5 := b5.size
  have r0 := cell_step al5 (cell_step b5 r0)
  have r1 := cell_step al5 (cell_step b5 r1)
  have r2 := cell_step al5 (cell_step b5 r2)
  have r3 := cell_step al5 (cell_step b5 r3)
  have HRW := Lib.hid (World.block_lt_of_cell? _ _ r0)
  clear b5 al5 O4 B4 V4 HVX S4 l5 HOK
  generalize ordTo zs n (cntN n size steps) = ords at *
  go_upto_region 6 with fail
  generalize (w5.alloc (.cells #[.int .i64 n, .int .i64 size, .int .i64 steps, .slice a2 k2 c2] 33)) = W5 at *
  generalize w5.heap.size = U at *
  have G0 := Lib.hid (World.grownBy.refl W5 (Value.slice ao zs.length co).ownBlock)
  go_wp2_with fail
  go_loopw [10, 45] (fun _ iv wr => ∃ i : Nat, ∃ ys : List Int, i ≤ zs.length ∧ iv = .int .i64 i ∧ ys.length = zs.length ∧ Hid (wr.ownsRow w1.heap.size 36 1 (.slice ao zs.length co) zs.length (ys.map (Value.int .u64))) ∧ Hid (W5.grownBy wr (Value.slice ao zs.length co).ownBlock)) (fun _ iv _ => zs.length - (intOf iv).toNat)
  case atStart => exact ⟨0, zs, Nat.zero_le _, rfl, rfl, O5, G0⟩
  case round =>
    obtain ⟨i, ys, hi, rfl, hys, HO, HG⟩ := hrel
    have HYS := Lib.hid hys
    clear hys
    by_cases hlt : i < zs.length
    · obtain ⟨g, c', e0, hg1, hg2⟩ := own_some HO.out (by omega)
      obtain ⟨y, hy⟩ : ∃ y, ys[i]? = some y := ⟨_, List.getElem?_eq_getElem (by rw [HYS.out]; exact hlt)⟩
      cases e0
      have cg := HO.out.cellAt i (by omega)
      rw [List.getElem?_map, hy, Option.map_some] at cg
      have fg := HO.out.frozenAt i
      have HY := Lib.hid hy
      clear hy
      have st := HO.out.stored i (.int .u64 (IntKind.u64.wrap (y + 1)))
      rw [← List.map_set] at st
      have ST := Lib.hid st
      clear st
      go_wp2_with fail
      go_roundw
      case rel => exact ⟨i + 1, ys.set i (IntKind.u64.wrap (y + 1)), by omega, by go_num, by rw [List.length_set]; exact HYS.out, Lib.hid ST.out.1, Lib.hid (grown_trans HG.out ST.out.2)⟩
      case measure => simp [intOf]; omega
    · have hie : i = zs.length := by omega
      clear hlt hi
      subst hie
      have hwl : w.heap.size < w1.heap.size := by omega
      have hown : ∀ q, (Value.slice ao zs.length co).ownBlock = some q → w1.heap.size ≤ q ∧ q < b := fun q e => ⟨(O5.out.lt q e).1, HGB.out q e⟩
      have B9 := Lib.hid (B5.out.grown HG.out B5.out.size (fun q e => by have := (hown q e).1; omega))
      have S9 := Lib.hid (S5.out.kept HG.out (fun q e => (hown q e).2))
      have L9 := Lib.hid (L5.out.kept HG.out (fun q e => by have := (hown q e).2; omega))
      have F9 := Lib.hid (F5.out.kept HG.out (fun e => by have := (hown _ e).2; omega))
      have r0 := (HG.out.block w.heap.size (World.block_lt_of_cell? _ _ r0) (fun e => by have := (hown _ e.symm).1; omega))
      have r2 : wr.cell? ⟨w.heap.size, 2, none⟩ = some (.int .i64 steps) := by rw [← r2]; simp only [World.cell?, r0]
      have HE := Lib.hid (fun k (hk : -9223372036854775808 ≤ k ∧ k ≤ 9223372036854775807) W h => Batch_any b n size steps ords HR.out k hk W h)
      have HRE := Lib.hid (fun k W h => refBatch_any w4.heap.size n size steps ords HR.out (.slice a2 k2 c2) k W h)
      have HL := Lib.hid (batchL_length HR.out)
      have HQ := Lib.hid (fun k v u n₁ n₂ W hv hu => equal_list v u (batchL n size steps ords k) (HL.out k) n₁ n₂ W hv hu)
      clear HO HG O5 G0 B5 S5 L5 F5 hown r0 r1 r3 HRW HR
      generalize wr = wo at *
      go_upto_region 16 with fail
      have R2 := Lib.hid r2
      clear r2
      have B0 := Lib.hid (Below.refl wo.heap.size wo)
      go_loopw [11, 67] (fun _ iv wr => ∃ k : Nat, k ≤ steps ∧ iv = .int .i64 k ∧ Hid (Below wo.heap.size wo wr)) (fun _ iv _ => steps - (intOf iv).toNat)
      case atStart => exact ⟨0, Nat.zero_le _, rfl, B0⟩
      case round =>
        clear B0
        obtain ⟨k, hk, rfl, HB⟩ := hrel
        have SR := Lib.hid (S9.out.later HB.out)
        have LR := Lib.hid (L9.out.later HB.out)
        obtain ⟨c0, c1, c2', c3, -, -, -, -⟩ := F9.out.later HB.out
        by_cases hlt : k < steps
        · have HEk := Lib.hid (HE.out k (by omega) wr.drew (SR.out.later (Below.refl _ _).drew))
          have HRk := Lib.hid (HRE.out k)
          have HQk := Lib.hid (HQ.out k)
          generalize batchL n size steps ords k = l at *
          go_upto_region 18 with fail
          refine wp_region_held_drew (S := fun w' => w'.cell? ⟨U, 0, none⟩ = some (.int .i64 n) ∧ w'.cell? ⟨U, 1, none⟩ = some (.int .i64 size) ∧ w'.cell? ⟨U, 2, none⟩ = some (.int .i64 steps) ∧ w'.cell? ⟨U, 3, none⟩ = some (.slice a2 k2 c2) ∧ Below wr.heap.size wr w') (by kernel_rfl) ?_ (fun hHeld => ?_)
          · exact ⟨c0, c1, c2', c3, (Below.refl _ _).drew⟩
          refine wpAnyH_take (i := 0) (v := ?v1) rfl (by kernel_rfl) (by kernel_rfl) (by kernel_rfl) (fun _ _ _ h => h) (Or.inl ⟨by rfl, ?hy1⟩) (by assumption) ?rest1
          case hy1 => (intro w hSw; (try dsimp only at hSw); go_simp; (first | done | with_reducible rfl))
          simp only [Act.put, List.setIfInBounds_toArray, List.set_cons_zero, List.set_cons_succ, List.getElem_toArray, List.getElem_cons_zero]
          refine wpAnyH_take (i := 1) (v := ?v2) rfl (by kernel_rfl) (by kernel_rfl) (by kernel_rfl) (fun _ _ _ h => h) (Or.inl ⟨by rfl, ?hy2⟩) (by assumption) ?rest2
          case hy2 => (intro w hSw; (try dsimp only at hSw); go_simp; (first | done | with_reducible rfl))
          simp only [Act.put, List.setIfInBounds_toArray, List.set_cons_zero, List.set_cons_succ, List.getElem_toArray, List.getElem_cons_zero, List.getElem_cons_succ]
          refine wpAnyH_take (i := 3) (v := ?v3) rfl (by kernel_rfl) (by kernel_rfl) (by kernel_rfl) (fun _ _ _ h => h) (Or.inl ⟨by rfl, ?hy3⟩) (by assumption) ?rest3
          case hy3 => (intro w hSw; (try dsimp only at hSw); go_simp; (first | done | with_reducible rfl))
          simp only [Act.put, List.setIfInBounds_toArray, List.set_cons_zero, List.set_cons_succ, List.getElem_toArray, List.getElem_cons_zero, List.getElem_cons_succ]
          refine wpAnyH_take (i := 4) (v := ?v4) rfl (by kernel_rfl) (by kernel_rfl) (by kernel_rfl) (fun _ _ _ h => h) (Or.inl ⟨by rfl, ?hy4⟩) (by assumption) ?rest4
          case hy4 => (intro w hSw; (try dsimp only at hSw); go_simp; (first | done | with_reducible rfl))
          simp only [Act.put, List.setIfInBounds_toArray, List.set_cons_zero, List.set_cons_succ, List.getElem_toArray, List.getElem_cons_zero, List.getElem_cons_succ]
          refine wpAnyH_ready (rs := [2]) (by kernel_rfl) (by simp) ?_
          refine AllReadyH.cons rfl (fun K hK => ?_) AllReadyH.nil
          simp only [List.getElem_toArray, List.getElem_cons_zero, List.getElem_cons_succ]
          obtain ⟨h_0, h_1, h_2, h_3, h_B⟩ := hHeld
          go_simp
          go_at_call 11
          refine HEk.out.mono ?_
          rintro e w6 ⟨u6, rfl, o6, b6⟩
          have O6 := Lib.hid o6
          have B6 := Lib.hid (below_step h_B b6)
          obtain ⟨a6, c6, rfl⟩ := own_value o6
          clear o6
          go_wp2_with fail
          refine hK.out _ _ ⟨cell_step b6 h_0, cell_step b6 h_1, cell_step b6 h_2, cell_step b6 h_3, below_step h_B b6⟩ (fun hHeld => ?_)
          clear hK K h_0 h_1 h_2 h_3 h_B b6
          try simp only [Act.put, List.setIfInBounds_toArray, List.set_cons_zero, List.set_cons_succ, List.getElem_toArray, List.getElem_cons_zero, List.getElem_cons_succ]
          refine wpAnyH_ready (rs := [5]) (by kernel_rfl) (by simp) ?_
          refine AllReadyH.cons rfl (fun K hK => ?_) AllReadyH.nil
          simp only [List.getElem_toArray, List.getElem_cons_zero, List.getElem_cons_succ]
          obtain ⟨h_0, h_1, h_2, h_3, h_B⟩ := hHeld
          go_simp
          go_at_call 12
          refine (HRk.out _ (LR.out.later h_B)).mono ?_
          rintro e w7 ⟨u7, rfl, i7, b7⟩
          have O7 := Lib.hid (own_below O6.out b7)
          have I7 := Lib.hid i7
          obtain ⟨a7, c7, rfl⟩ := ints_value i7
          clear i7
          go_wp2_with fail
          refine hK.out _ _ ⟨cell_step b7 h_0, cell_step b7 h_1, cell_step b7 h_2, cell_step b7 h_3, below_step h_B b7⟩ (fun hHeld => ?_)
          clear hK K h_0 h_1 h_2 h_3 h_B b7 O6 B6
          try simp only [Act.put, List.setIfInBounds_toArray, List.set_cons_zero, List.set_cons_succ, List.getElem_toArray, List.getElem_cons_zero, List.getElem_cons_succ]
          refine wpAnyH_ready (rs := [6]) (by kernel_rfl) (by simp) ?_
          refine AllReadyH.cons rfl (fun K hK => ?_) AllReadyH.nil
          simp only [List.getElem_toArray, List.getElem_cons_zero, List.getElem_cons_succ]
          obtain ⟨h_0, h_1, h_2, h_3, h_B⟩ := hHeld
          go_simp
          go_at_call 10
          refine (HQk.out _ _ _ _ _ (ints_own O7.out) I7.out).mono ?_
          rintro e w8 ⟨rfl, b8⟩
          go_wp2_with fail
          refine hK.out _ _ ⟨cell_step b8 h_0, cell_step b8 h_1, cell_step b8 h_2, cell_step b8 h_3, below_step h_B b8⟩ (fun hHeld => ?_)
          clear hK K h_0 h_1 h_2 h_3 h_B b8 O7 I7
          try simp only [Act.put, List.setIfInBounds_toArray, List.set_cons_zero, List.set_cons_succ, List.getElem_toArray, List.getElem_cons_zero, List.getElem_cons_succ]
          refine wpAnyH_take (i := 7) (v := ?v5) rfl (by kernel_rfl) (by kernel_rfl) (by kernel_rfl) (fun _ _ _ h => h) (Or.inl ⟨by rfl, ?hy5⟩) (by assumption) ?rest5
          case hy5 => (intro w hSw; (try dsimp only at hSw); go_simp; (first | done | with_reducible rfl))
          simp only [Act.put, List.setIfInBounds_toArray, List.set_cons_zero, List.set_cons_succ, List.getElem_toArray, List.getElem_cons_zero, List.getElem_cons_succ]
          refine wpAnyH_done (by kernel_rfl) ?_ _
          have HB8 := Lib.hid (below_step HB.out hHeld.2.2.2.2)
          clear hHeld
          go_wp2_with fail
          go_roundw
          case rel => exact ⟨k + 1, by omega, by go_num, HB8⟩
          case measure => simp [intOf]; omega
        · have hke : k = steps := by omega
          clear hlt hk
          subst hke
          have d2 := cell_step HB.out R2.out
          have HEk := Lib.hid (HE.out t ht)
          have HRk := Lib.hid (HRE.out t)
          have HQk := Lib.hid (HQ.out t)
          have HST := Lib.hid (fun W h => steps_any b n size k ords W h)
          clear HE HRE HQ HL
          generalize batchL n size k ords t = l at *
          go_upto_region 21 with fail
          refine wp_region_held_drew (S := fun w' => w'.cell? ⟨U, 0, none⟩ = some (.int .i64 n) ∧ w'.cell? ⟨U, 1, none⟩ = some (.int .i64 size) ∧ w'.cell? ⟨U, 2, none⟩ = some (.int .i64 k) ∧ w'.cell? ⟨U, 3, none⟩ = some (.slice a2 k2 c2) ∧ w'.cell? ⟨w.heap.size, 2, none⟩ = some (.int .i64 k) ∧ Below wr.heap.size wr w') (by kernel_rfl) ?_ (fun hHeld => ?_)
          · exact ⟨c0, c1, c2', c3, d2, (Below.refl _ _).drew⟩
          refine wpAnyH_ready (rs := [0]) (by kernel_rfl) (by simp) ?_
          refine AllReadyH.cons rfl (fun K hK => ?_) AllReadyH.nil
          simp only [List.getElem_toArray, List.getElem_cons_zero]
          obtain ⟨h_0, h_1, h_2, h_3, h_4, h_B⟩ := hHeld
          go_simp
          go_at_call 7
          refine (alive_any _).mono ?_
          rintro e w6 ⟨rfl, b6⟩
          go_wp2_with fail
          refine hK.out _ _ ⟨cell_step b6 h_0, cell_step b6 h_1, cell_step b6 h_2, cell_step b6 h_3, cell_step b6 h_4, below_step h_B b6⟩ (fun hHeld => ?_)
          clear hK K h_0 h_1 h_2 h_3 h_4 h_B b6
          try simp only [Act.put, List.setIfInBounds_toArray, List.set_cons_zero, List.set_cons_succ, List.getElem_toArray, List.getElem_cons_zero, List.getElem_cons_succ]
          refine wpAnyH_take (i := 1) (v := ?v6) rfl (by kernel_rfl) (by kernel_rfl) (by kernel_rfl) (fun _ _ _ h => h) (Or.inl ⟨by rfl, ?hy6⟩) (by assumption) ?rest6
          case hy6 => (intro w hSw; (try dsimp only at hSw); go_simp; (first | done | with_reducible rfl))
          simp only [Act.put, List.setIfInBounds_toArray, List.set_cons_zero, List.set_cons_succ, List.getElem_toArray, List.getElem_cons_zero, List.getElem_cons_succ]
          refine wpAnyH_take (i := 2) (v := ?v7) rfl (by kernel_rfl) (by kernel_rfl) (by kernel_rfl) (fun _ _ _ h => h) (Or.inl ⟨by rfl, ?hy7⟩) (by assumption) ?rest7
          case hy7 => (intro w hSw; (try dsimp only at hSw); go_simp; (first | done | with_reducible rfl))
          simp only [Act.put, List.setIfInBounds_toArray, List.set_cons_zero, List.set_cons_succ, List.getElem_toArray, List.getElem_cons_zero, List.getElem_cons_succ]
          refine wpAnyH_take (i := 4) (v := ?v8) rfl (by kernel_rfl) (by kernel_rfl) (by kernel_rfl) (fun _ _ _ h => h) (Or.inl ⟨by rfl, ?hy8⟩) (by assumption) ?rest8
          case hy8 => (intro w hSw; (try dsimp only at hSw); go_simp; (first | done | with_reducible rfl))
          simp only [Act.put, List.setIfInBounds_toArray, List.set_cons_zero, List.set_cons_succ, List.getElem_toArray, List.getElem_cons_zero, List.getElem_cons_succ]
          refine wpAnyH_take (i := 5) (v := ?v9) rfl (by kernel_rfl) (by kernel_rfl) (by kernel_rfl) (fun _ _ _ h => h) (Or.inl ⟨by rfl, ?hy9⟩) (by assumption) ?rest9
          case hy9 => (intro w hSw; (try dsimp only at hSw); go_simp; (first | done | with_reducible rfl))
          simp only [Act.put, List.setIfInBounds_toArray, List.set_cons_zero, List.set_cons_succ, List.getElem_toArray, List.getElem_cons_zero, List.getElem_cons_succ]
          refine wpAnyH_ready (rs := [3]) (by kernel_rfl) (by simp) ?_
          refine AllReadyH.cons rfl (fun K hK => ?_) AllReadyH.nil
          simp only [List.getElem_toArray, List.getElem_cons_zero, List.getElem_cons_succ]
          obtain ⟨h_0, h_1, h_2, h_3, h_4, h_B⟩ := hHeld
          go_simp
          go_at_call 13
          refine (HST.out _ (SR.out.later h_B)).mono ?_
          rintro e w7 ⟨rfl, b7⟩
          go_wp2_with fail
          refine hK.out _ _ ⟨cell_step b7 h_0, cell_step b7 h_1, cell_step b7 h_2, cell_step b7 h_3, cell_step b7 h_4, below_step h_B b7⟩ (fun hHeld => ?_)
          clear hK K h_0 h_1 h_2 h_3 h_4 h_B b7 HST
          try simp only [Act.put, List.setIfInBounds_toArray, List.set_cons_zero, List.set_cons_succ, List.getElem_toArray, List.getElem_cons_zero, List.getElem_cons_succ]
          refine wpAnyH_take (i := 6) (v := ?v10) rfl (by kernel_rfl) (by kernel_rfl) (by kernel_rfl) (fun _ _ _ h => h) (Or.inl ⟨by rfl, ?hy10⟩) (by assumption) ?rest10
          case hy10 => (intro w hSw; (try dsimp only at hSw); go_simp; (first | done | with_reducible rfl))
          simp only [Act.put, List.setIfInBounds_toArray, List.set_cons_zero, List.set_cons_succ, List.getElem_toArray, List.getElem_cons_zero, List.getElem_cons_succ]
          refine wpAnyH_take (i := 7) (v := ?v11) rfl (by kernel_rfl) (by kernel_rfl) (by kernel_rfl) (fun _ _ _ h => h) (Or.inl ⟨by rfl, ?hy11⟩) (by assumption) ?rest11
          case hy11 => (intro w hSw; (try dsimp only at hSw); go_simp; (first | done | with_reducible rfl))
          simp only [Act.put, List.setIfInBounds_toArray, List.set_cons_zero, List.set_cons_succ, List.getElem_toArray, List.getElem_cons_zero, List.getElem_cons_succ]
          refine wpAnyH_take (i := 8) (v := ?v12) rfl (by kernel_rfl) (by kernel_rfl) (by kernel_rfl) (fun _ _ _ h => h) (Or.inl ⟨by rfl, ?hy12⟩) (by assumption) ?rest12
          case hy12 => (intro w hSw; (try dsimp only at hSw); go_simp; (first | done | with_reducible rfl))
          simp only [Act.put, List.setIfInBounds_toArray, List.set_cons_zero, List.set_cons_succ, List.getElem_toArray, List.getElem_cons_zero, List.getElem_cons_succ]
          refine wpAnyH_take (i := 9) (v := ?v13) rfl (by kernel_rfl) (by kernel_rfl) (by kernel_rfl) (fun _ _ _ h => h) (Or.inl ⟨by rfl, ?hy13⟩) (by assumption) ?rest13
          case hy13 => (intro w hSw; (try dsimp only at hSw); go_simp; (first | done | with_reducible rfl))
          simp only [Act.put, List.setIfInBounds_toArray, List.set_cons_zero, List.set_cons_succ, List.getElem_toArray, List.getElem_cons_zero, List.getElem_cons_succ]
          refine wpAnyH_take (i := 10) (v := ?v14) rfl (by kernel_rfl) (by kernel_rfl) (by kernel_rfl) (fun _ _ _ h => h) (Or.inl ⟨by rfl, ?hy14⟩) (by assumption) ?rest14
          case hy14 => (intro w hSw; (try dsimp only at hSw); go_simp; (first | done | with_reducible rfl))
          simp only [Act.put, List.setIfInBounds_toArray, List.set_cons_zero, List.set_cons_succ, List.getElem_toArray, List.getElem_cons_zero, List.getElem_cons_succ]
          refine wpAnyH_take (i := 12) (v := ?v15) rfl (by kernel_rfl) (by kernel_rfl) (by kernel_rfl) (fun _ _ _ h => h) (Or.inl ⟨by rfl, ?hy15⟩) (by assumption) ?rest15
          case hy15 => (intro w hSw; (try dsimp only at hSw); go_simp; (first | done | with_reducible rfl))
          simp only [Act.put, List.setIfInBounds_toArray, List.set_cons_zero, List.set_cons_succ, List.getElem_toArray, List.getElem_cons_zero, List.getElem_cons_succ]
          refine wpAnyH_take (i := 13) (v := ?v16) rfl (by kernel_rfl) (by kernel_rfl) (by kernel_rfl) (fun _ _ _ h => h) (Or.inl ⟨by rfl, ?hy16⟩) (by assumption) ?rest16
          case hy16 => (intro w hSw; (try dsimp only at hSw); go_simp; (first | done | with_reducible rfl))
          simp only [Act.put, List.setIfInBounds_toArray, List.set_cons_zero, List.set_cons_succ, List.getElem_toArray, List.getElem_cons_zero, List.getElem_cons_succ]
          refine wpAnyH_ready (rs := [11]) (by kernel_rfl) (by simp) ?_
          refine AllReadyH.cons rfl (fun K hK => ?_) AllReadyH.nil
          simp only [List.getElem_toArray, List.getElem_cons_zero, List.getElem_cons_succ]
          obtain ⟨h_0, h_1, h_2, h_3, h_4, h_B⟩ := hHeld
          go_simp
          go_at_call 11
          refine (HEk.out _ (SR.out.later h_B)).mono ?_
          rintro e w8 ⟨u8, rfl, o8, b8⟩
          have O8 := Lib.hid o8
          obtain ⟨a8, c8, rfl⟩ := own_value o8
          clear o8
          go_wp2_with fail
          refine hK.out _ _ ⟨cell_step b8 h_0, cell_step b8 h_1, cell_step b8 h_2, cell_step b8 h_3, cell_step b8 h_4, below_step h_B b8⟩ (fun hHeld => ?_)
          clear hK K h_0 h_1 h_2 h_3 h_4 h_B b8 HEk
          try simp only [Act.put, List.setIfInBounds_toArray, List.set_cons_zero, List.set_cons_succ, List.getElem_toArray, List.getElem_cons_zero, List.getElem_cons_succ]
          refine wpAnyH_ready (rs := [14]) (by kernel_rfl) (by simp) ?_
          refine AllReadyH.cons rfl (fun K hK => ?_) AllReadyH.nil
          simp only [List.getElem_toArray, List.getElem_cons_zero, List.getElem_cons_succ]
          obtain ⟨h_0, h_1, h_2, h_3, h_4, h_B⟩ := hHeld
          go_simp
          go_at_call 12
          refine (HRk.out _ (LR.out.later h_B)).mono ?_
          rintro e w9 ⟨u9, rfl, i9, b9⟩
          have O9 := Lib.hid (own_below O8.out b9)
          have I9 := Lib.hid i9
          obtain ⟨a9, c9, rfl⟩ := ints_value i9
          clear i9
          go_wp2_with fail
          refine hK.out _ _ ⟨cell_step b9 h_0, cell_step b9 h_1, cell_step b9 h_2, cell_step b9 h_3, cell_step b9 h_4, below_step h_B b9⟩ (fun hHeld => ?_)
          clear hK K h_0 h_1 h_2 h_3 h_4 h_B b9 HRk O8
          try simp only [Act.put, List.setIfInBounds_toArray, List.set_cons_zero, List.set_cons_succ, List.getElem_toArray, List.getElem_cons_zero, List.getElem_cons_succ]
          refine wpAnyH_ready (rs := [15]) (by kernel_rfl) (by simp) ?_
          refine AllReadyH.cons rfl (fun K hK => ?_) AllReadyH.nil
          simp only [List.getElem_toArray, List.getElem_cons_zero, List.getElem_cons_succ]
          obtain ⟨h_0, h_1, h_2, h_3, h_4, h_B⟩ := hHeld
          go_simp
          go_at_call 10
          refine (HQk.out _ _ _ _ _ (ints_own O9.out) I9.out).mono ?_
          rintro e wX ⟨rfl, bX⟩
          go_wp2_with fail
          refine hK.out _ _ ⟨cell_step bX h_0, cell_step bX h_1, cell_step bX h_2, cell_step bX h_3, cell_step bX h_4, below_step h_B bX⟩ (fun hHeld => ?_)
          clear hK K h_0 h_1 h_2 h_3 h_4 h_B bX HQk O9 I9
          try simp only [Act.put, List.setIfInBounds_toArray, List.set_cons_zero, List.set_cons_succ, List.getElem_toArray, List.getElem_cons_zero, List.getElem_cons_succ]
          refine wpAnyH_take (i := 16) (v := ?v17) rfl (by kernel_rfl) (by kernel_rfl) (by kernel_rfl) (fun _ _ _ h => h) (Or.inl ⟨by rfl, ?hy17⟩) (by assumption) ?rest17
          case hy17 => (intro w hSw; (try dsimp only at hSw); go_simp; (first | done | with_reducible rfl))
          simp only [Act.put, List.setIfInBounds_toArray, List.set_cons_zero, List.set_cons_succ, List.getElem_toArray, List.getElem_cons_zero, List.getElem_cons_succ]
          refine wpAnyH_take (i := 17) (v := ?v18) rfl (by kernel_rfl) (by kernel_rfl) (by kernel_rfl) (fun _ _ _ h => h) (Or.inl ⟨by rfl, ?hy18⟩) (by assumption) ?rest18
          case hy18 => (intro w hSw; (try dsimp only at hSw); go_simp; (first | done | with_reducible rfl))
          simp only [Act.put, List.setIfInBounds_toArray, List.set_cons_zero, List.set_cons_succ, List.getElem_toArray, List.getElem_cons_zero, List.getElem_cons_succ]
          refine wpAnyH_done (by kernel_rfl) ?_ _
          have BF := Lib.hid (below_step B9.out (below_step HB.out hHeld.2.2.2.2.2))
          clear hHeld
          go_wp2_with fail
          go_ret
          exact ⟨by first | rfl | (simp; done), BF.out⟩
theorem walk_makes (n size steps : Int) (t : Int) (ht : -9223372036854775808 ≤ t ∧ t ≤ 9223372036854775807) (v : Value) (zs : List Int) (hz : ∀ z ∈ zs, 0 ≤ z ∧ z < 18446744073709551616) (w : World) (hv : IntsW .u64 w.heap.size w v zs) :
    Calls Try.prog 3 #[.agg #[.int .i64 n, .int .i64 size, .int .i64 steps, v], .int .i64 t] w fun e w' => e = .returned (.bool true) ∧ Below w.heap.size w w' := by
  by_cases hf : n ≤ 60 ∧ steps ≤ 60 ∧ (zs.length : Int) ≤ 4000
  · by_cases hc : codeS n size steps zs.length = 0
    · exact walk_makes_yes n size steps t ht v zs hz w hv hf.1 hf.2.1 (by omega) hc
    · exact walk_makes_no n size steps t ht v zs hz w hv hf.1 hf.2.1 (by omega) hc
  · exact walk_makes_few n size steps t v zs w hv hf
end Go.Proofs.Ytgkiloidjeahbaa
