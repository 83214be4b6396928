/- Layer 10: data.Clone. -/
import Derived.Test.YtcnabebcckbfkaaDoorDatP
namespace Go.Proofs.YtcnabebcckbfkaaDoor
open Go.RowKit
set_option linter.unusedVariables false
/-- a copy of a slice of int64 -/
theorem clone_i64 (a : Option Addr) (len cap : Nat) (zs : List Int) (hm : zs.length * 8 ≤ 140737488351232) (w : World) (hL : IntsAt .i64 w.heap.size w (.slice a len cap) zs) :
    Calls Tryd.prog 44 #[.slice a len cap] w (ClonedTo 2 1 zs.length (zs.map (Value.int .i64)) w) := by
  rcases hL.form with ⟨e0, rfl⟩ | ⟨b, off, cap', e0, hcap, hb, hcs⟩ <;> cases e0
  · refine (Tryd.slices_Clone_nil 0 0 w).mono ?_
    rintro e w' ⟨rfl, rfl⟩
    exact ⟨_, rfl, World.ownsRow_nil _ _ _ _, Below.refl _ _⟩
  · obtain ⟨i0, hi, hz0, hz1, hz2⟩ := info_parts (show (Tryd.prog.info? 2).map (fun i => (i.zero, i.size, i.bytes)) = some (some (.int .i64 0), 1, 8) by kernel_rfl)
    refine (Tryd.slices_Clone i0 (.int .i64 0) 1 8 hi hz0 hz1 hz2 rfl (by decide) (by first | exact Tryd.sizeOf2 | intro w; kernel_rfl) b off zs.length cap (zs.map (Value.int .i64)) w (by simp) (by unfold maxLen; omega) (by omega) ?_ ?_).mono ?_
    · intro j u hj
      rw [List.getElem?_map] at hj
      have hlt : j < zs.length := by
        apply Nat.lt_of_not_le; intro hge
        rw [List.getElem?_eq_none hge] at hj; cases hj
      rw [List.getElem?_eq_getElem hlt] at hj
      rw [hcs j hlt, List.getElem?_eq_getElem hlt]
      simpa using hj
    · intro u hu
      simp only [List.mem_map] at hu
      obtain ⟨z, _, rfl⟩ := hu
      rfl
    · rintro e w' ⟨v, rfl, ho, _, hb'⟩
      exact ⟨v, rfl, ho, hb'⟩
theorem cloneZ_i64 (ad : Addr) (c : Nat) (w : World) :
    Calls Tryd.prog 44 #[.slice (some ad) 0 c] w (ClonedTo 2 1 0 [] w) := by
  obtain ⟨i0, hi, hz0, hz1, hz2⟩ := info_parts (show (Tryd.prog.info? 2).map (fun i => (i.zero, i.size, i.bytes)) = some (some (.int .i64 0), 1, 8) by kernel_rfl)
  have q : ∀ (w : World) (a : Option Addr) (n c n' c' : Nat), (binOp .eql 22 (.slice a n c) (.slice none n' c')).run Tryd.prog w = .ok (.bool a.isNone) w := fun w a n c n' c' => Lib.run_eql_slice_nil w _ _ a n c n' c' Tryd.underlying22
  go_enter Tryd.func44, Tryd.ntmps44
  go_wp2_with (at_builtin; refine wpList_append_own _ rfl _ _ 22 rfl w.heap.size 2 i0 (.int .i64 0) 1 8 Tryd.underlying22 hi hz0 hz1 hz2 rfl (by decide) _ _ _ rfl (World.ownsRow_made w #[] 0 (Nat.le_refl _) (Nat.zero_le _) rfl) ad 0 c [] rfl rfl (by intro j u hj; simp at hj) (by intro u hu; cases hu) (by unfold maxLen; omega) (by omega) (by simp) ?_)
  intro v' w1 hown hgrow hnil
  have HO := Lib.hid hown
  have HG := Lib.hid hgrow
  clear hown hgrow hnil
  go_wp2
  go_ret
  exact ⟨v', rfl, by simpa using HO.out, ((Below.refl _ w).alloc (Nat.le_refl _) _).grown HG.out (by simp) (by intro k hk; simp [Value.ownBlock] at hk; omega)⟩
theorem cloneW_i64 (v : Value) (zs : List Int) (hm : zs.length * 8 ≤ 140737488351232) (w : World) (hL : IntsW .i64 w.heap.size w v zs) :
    Calls Tryd.prog 44 #[v] w (ClonedTo 2 1 zs.length (zs.map (Value.int .i64)) w) := by
  rcases hL with ⟨rfl, a, c, rfl⟩ | hL
  · exact cloneZ_i64 a c w
  · obtain ⟨a, c, rfl⟩ := ints_value hL
    exact clone_i64 a _ c zs hm w hL
set_option maxHeartbeats 4000000 in
theorem dataClone_any (v : Value) (es : List Ex) (hl : es.length ≤ 1000) (hm : ∀ k, k < es.length → (exAt es k).1.length ≤ 1000000 ∧ (exAt es k).2.length ≤ 1000000) (w : World) (hv : ExsAt w.heap.size w v es) :
    Calls Tryd.prog 24 #[v] w (CopiedX es w) := by
  obtain ⟨a, c, rfl⟩ := hv.value
  have HV := Lib.hid hv
  have HM := Lib.hid hm
  have X0 := Lib.hid (And.intro (World.ownsRow_nil w w.heap.size 24 2) (And.intro (PairsO.nil w.heap.size w es) (Below.refl w.heap.size w)))
  clear hv hm
  generalize hN : w.heap.size = N at *
  go_enter Tryd.func24, Tryd.ntmps24
  go_wp2_with fail
  go_loopw [3, 5, 8] (fun rv _ iv wr => ∃ k : Nat, ∃ cells : List Value, k ≤ es.length ∧ iv = .int .i64 k ∧ Hid (wr.ownsRow N 24 2 rv k cells ∧ PairsO N wr cells es k ∧ Below N w wr)) (fun _ _ iv _ => es.length - (intOf iv).toNat)
  case atStart => exact ⟨0, [], Nat.zero_le _, rfl, X0⟩
  case round =>
    clear X0
    obtain ⟨k, cells, hk, rfl, HX⟩ := hrel
    by_cases hlt : k < es.length
    · have HE := Lib.hid ((HV.out.below HX.out.2.2).at hlt)
      obtain ⟨b, off, rfl, hb, ax, cx, ay, cy, c0, c1, ix, iy⟩ := HE.out
      have hm0 := HM.out k hlt
      have hbw : b < wr.heap.size := World.block_lt_of_cell? _ _ c0
      have hNw : N ≤ wr.heap.size := by have := HX.out.2.2.size; omega
      have HIX := Lib.hid (And.intro ix iy)
      have i0 : (0 : Int) ≤ (k : Int) := by omega
      have i1 : (k : Int) < (es.length : Int) := by omega
      have i3 : k ≤ 1000 := by omega
      obtain ⟨ra, rc, rfl⟩ := own_value HX.out.1
      clear ix iy HE
      have bE := (Below.refl wr.heap.size wr).alloc (Nat.le_refl _) (.cells #[.slice ax (exAt es k).1.length cx, .slice ay (exAt es k).2.length cy] 24)
      have e0 := cell_new wr #[.slice ax (exAt es k).1.length cx, .slice ay (exAt es k).2.length cy] 24 0
      have e1 := cell_new wr #[.slice ax (exAt es k).1.length cx, .slice ay (exAt es k).2.length cy] 24 1
      simp only [List.getElem?_toArray, List.getElem?_cons_zero, List.getElem?_cons_succ] at e0 e1
      go_upto_region 5 with fail
      generalize wr.alloc (.cells #[.slice ax (exAt es k).1.length cx, .slice ay (exAt es k).2.length cy] 24) = wE at *
      have hEw : wr.heap.size < wE.heap.size := World.block_lt_of_cell? _ _ e0
      generalize hE : wr.heap.size = E at *
      refine wp_region_held_drew (S := fun w' => w'.cell? ⟨E, 0, none⟩ = some (.slice ax (exAt es k).1.length cx) ∧ w'.cell? ⟨E, 1, none⟩ = some (.slice ay (exAt es k).2.length cy)) (by kernel_rfl) ?_ (fun hHeld => ?_)
      · exact ⟨e0, e1⟩
      have D0 := Lib.hid (show Below wr.heap.size wr wE.drew by rw [hE]; exact bE.drew)
      generalize wE.drew = W0 at *
      clear bE e0 e1 c0 c1
      refine wpAnyH_take (i := 0) (v := ?v1) rfl (by kernel_rfl) (by kernel_rfl) (by kernel_rfl) (fun _ _ _ h => h) (Or.inl ⟨by rfl, ?hy1⟩) (by assumption) ?rest1
      case hy1 => (intro w hSw; (try dsimp only at hSw); go_simp; (first | done | with_reducible rfl))
      simp only [Act.put, List.setIfInBounds_toArray, List.set_cons_zero, List.set_cons_succ, List.getElem_toArray, List.getElem_cons_zero]
      refine wpAnyH_take (i := 1) (v := ?v2) rfl (by kernel_rfl) (by kernel_rfl) (by kernel_rfl) (fun _ _ _ h => h) (Or.inl ⟨by rfl, ?hy2⟩) (by assumption) ?rest2
      case hy2 => (intro w hSw; (try dsimp only at hSw); go_simp; (first | done | with_reducible rfl))
      simp only [Act.put, List.setIfInBounds_toArray, List.set_cons_zero, List.set_cons_succ, List.getElem_toArray, List.getElem_cons_zero, List.getElem_cons_succ]
      refine wpAnyH_take (i := 2) (v := ?v3) rfl (by kernel_rfl) (by kernel_rfl) (by kernel_rfl) (fun _ _ _ h => h) (Or.inl ⟨by rfl, ?hy3⟩) (by assumption) ?rest3
      case hy3 => (intro w hSw; (try dsimp only at hSw); go_simp; (first | done | with_reducible rfl))
      simp only [Act.put, List.setIfInBounds_toArray, List.set_cons_zero, List.set_cons_succ, List.getElem_toArray, List.getElem_cons_zero, List.getElem_cons_succ]
      refine wpAnyH_take (i := 4) (v := ?v4) rfl (by kernel_rfl) (by kernel_rfl) (by kernel_rfl) (fun _ _ _ h => h) (Or.inl ⟨by rfl, ?hy4⟩) (by assumption) ?rest4
      case hy4 => (intro w hSw; (try dsimp only at hSw); go_simp; (first | done | with_reducible rfl))
      simp only [Act.put, List.setIfInBounds_toArray, List.set_cons_zero, List.set_cons_succ, List.getElem_toArray, List.getElem_cons_zero, List.getElem_cons_succ]
      refine wpAnyH_take (i := 5) (v := ?v5) rfl (by kernel_rfl) (by kernel_rfl) (by kernel_rfl) (fun _ _ _ h => h) (Or.inl ⟨by rfl, ?hy5⟩) (by assumption) ?rest5
      case hy5 => (intro w hSw; (try dsimp only at hSw); go_simp; (first | done | with_reducible rfl))
      simp only [Act.put, List.setIfInBounds_toArray, List.set_cons_zero, List.set_cons_succ, List.getElem_toArray, List.getElem_cons_zero, List.getElem_cons_succ]
      refine wpAnyH_ready (rs := [3]) (by kernel_rfl) (by simp) ?_
      refine AllReadyH.cons rfl (fun K hK => ?_) AllReadyH.nil
      simp only [List.getElem_toArray, List.getElem_cons_zero, List.getElem_cons_succ]
      go_simp
      go_at_call 44
      refine (cloneW_i64 _ (exAt es k).1 (by omega) W0 ((HIX.out.1.below (D0.out.mono (by omega))).grow (by have := D0.out.size; omega))).mono ?_
      rintro e W1 ⟨vx, rfl, ox, b1⟩
      have D1 := Lib.hid (D0.out.trans (b1.mono D0.out.size))
      have OX := Lib.hid (owns_mono (show N ≤ W0.heap.size from by have := D0.out.size; omega) ox)
      have hH := And.intro (cell_step b1 hHeld.1) (cell_step b1 hHeld.2)
      clear ox b1 hHeld
      go_wp2_with fail
      refine hK.out _ _ hH (fun hHeld => ?_)
      clear hK K hH
      try simp only [Act.put, List.setIfInBounds_toArray, List.set_cons_zero, List.set_cons_succ, List.getElem_toArray, List.getElem_cons_zero, List.getElem_cons_succ]
      refine wpAnyH_ready (rs := [6]) (by kernel_rfl) (by simp) ?_
      refine AllReadyH.cons rfl (fun K hK => ?_) AllReadyH.nil
      simp only [List.getElem_toArray, List.getElem_cons_zero, List.getElem_cons_succ]
      go_simp
      go_at_call 44
      refine (cloneW_i64 _ (exAt es k).2 (by omega) W1 ((HIX.out.2.below (D1.out.mono (by omega))).grow (by have := D1.out.size; omega))).mono ?_
      rintro e W2 ⟨vy, rfl, oy, b2⟩
      have D2 := Lib.hid (D1.out.trans (b2.mono D1.out.size))
      have OX2 := Lib.hid (own_below OX.out b2)
      have OY2 := Lib.hid (owns_mono (show N ≤ W1.heap.size from by have := D1.out.size; omega) oy)
      have hH := And.intro (cell_step b2 hHeld.1) (cell_step b2 hHeld.2)
      obtain ⟨vxa, vxc, rfl⟩ := own_value OX2.out
      obtain ⟨vya, vyc, rfl⟩ := own_value OY2.out
      clear oy b2 hHeld OX
      go_wp2_with fail
      refine hK.out _ _ hH (fun hHeld => ?_)
      clear hK K hH
      try simp only [Act.put, List.setIfInBounds_toArray, List.set_cons_zero, List.set_cons_succ, List.getElem_toArray, List.getElem_cons_zero, List.getElem_cons_succ]
      refine wpAnyH_take (i := 7) (v := ?v6) rfl (by kernel_rfl) (by kernel_rfl) (by kernel_rfl) (fun _ _ _ h => h) (Or.inl ⟨by rfl, ?hy6⟩) (by assumption) ?rest6
      case hy6 => (intro w hSw; (try dsimp only at hSw); go_simp; (first | done | with_reducible rfl))
      simp only [Act.put, List.setIfInBounds_toArray, List.set_cons_zero, List.set_cons_succ, List.getElem_toArray, List.getElem_cons_zero, List.getElem_cons_succ]
      refine wpAnyH_ready (rs := [8]) (by kernel_rfl) (by simp) ?_
      refine AllReadyH.cons rfl (fun K hK => ?_) AllReadyH.nil
      simp only [List.getElem_toArray, List.getElem_cons_zero, List.getElem_cons_succ]
      go_simp
      have b3 := (Below.refl W2.heap.size W2).alloc (Nat.le_refl _) (.cells #[.slice vxa (exAt es k).1.length vxc, .slice vya (exAt es k).2.length vyc] 24)
      have D3 := Lib.hid (D2.out.trans (b3.mono D2.out.size))
      have OX3 := Lib.hid (own_below OX2.out b3)
      have OY3 := Lib.hid (own_below OY2.out b3)
      have S3 : (W2.alloc (.cells #[.slice vxa (exAt es k).1.length vxc, .slice vya (exAt es k).2.length vyc] 24)).heap[W2.heap.size]? = some (.cells #[.slice vxa (exAt es k).1.length vxc, .slice vya (exAt es k).2.length vyc] 24 (0, 0)) := (MapKept.heap_alloc W2 _).1
      have hH := And.intro (cell_step b3 hHeld.1) (cell_step b3 hHeld.2)
      clear b3 hHeld OX2 OY2
      refine hK.out _ _ hH (fun hHeld => ?_)
      clear hK K hH
      try simp only [Act.put, List.setIfInBounds_toArray, List.set_cons_zero, List.set_cons_succ, List.getElem_toArray, List.getElem_cons_zero, List.getElem_cons_succ]
      generalize W2.alloc (.cells #[.slice vxa (exAt es k).1.length vxc, .slice vya (exAt es k).2.length vyc] 24) = W3 at *
      generalize W2.heap.size = G at *
      refine wpAnyH_ready (rs := [9]) (by kernel_rfl) (by simp) ?_
      refine AllReadyH.cons rfl (fun K hK => ?_) AllReadyH.nil
      simp only [List.getElem_toArray, List.getElem_cons_zero, List.getElem_cons_succ]
      try simp only [Act.put, List.setIfInBounds_toArray, List.set_cons_zero, List.set_cons_succ]
      have OR := Lib.hid (own_below HX.out.1 D3.out)
      have PR := Lib.hid (HX.out.2.1.later D3.out)
      have hNs : N ≤ W3.heap.size := by have := D3.out.size; omega
      refine step_list (a := ⟨_, _⟩) (W := W3) (base := N) (v := .slice ra k rc) (u := .slice (some ⟨G, 0, none⟩) 1 1) (n := k) (m := 1) (xs := cells) (ys := [.slice vxa (exAt es k).1.length vxc, .slice vya (exAt es k).2.length vyc]) elemX (by rfl) _ _ (by rfl) (by rfl) (by rfl) OR.out rfl (.inr ⟨_, _, rfl, World.news_of_block S3⟩) ?_ ?_ ?_ hNs ?_
      · simp [Value.oneCell']
      · unfold maxLen; omega
      · omega
      intro v9 W9 o9 g9
      have hx9 := OX3.out.kept g9 (rows_apart OX3.out OR.out (by decide))
      have hy9 := OY3.out.kept g9 (rows_apart OY3.out OR.out (by decide))
      have X9 := Lib.hid (And.intro o9 (And.intro ((PR.out.appended OR.out (by decide) g9).snoc hx9 hy9) (HX.out.2.2.trans (below_appended (D3.out.mono (by omega)) OR.out g9 (Nat.le_refl N) hNs))))
      have hne : ∀ q, some q = (Value.slice ra k rc).ownBlock → E ≠ q := fun q e e2 => by
        have := (HX.out.1.lt q e.symm).2
        omega
      have hH : W9.cell? ⟨E, 0, none⟩ = some (.slice ax (exAt es k).1.length cx) ∧ W9.cell? ⟨E, 1, none⟩ = some (.slice ay (exAt es k).2.length cy) := by
        have hb9 := g9.block E (World.block_lt_of_cell? _ _ hHeld.1) (fun e => hne E e rfl)
        exact ⟨(World.cell?_of_block (a := ⟨E, 0, none⟩) hb9).trans hHeld.1, (World.cell?_of_block (a := ⟨E, 1, none⟩) hb9).trans hHeld.2⟩
      obtain ⟨a9, c9, rfl⟩ := own_value o9
      clear o9 g9 hx9 hy9 hHeld
      refine hK.out _ _ hH (fun hHeld => ?_)
      clear hK K hH
      try simp only [Act.put, List.setIfInBounds_toArray, List.set_cons_zero, List.set_cons_succ]
      refine wpAnyH_take (i := 10) (v := ?v7) rfl (by kernel_rfl) (by kernel_rfl) (by kernel_rfl) (fun _ _ _ h => h) (Or.inl ⟨by rfl, ?hy7⟩) (by assumption) ?rest7
      case hy7 => (intro w hSw; (try dsimp only at hSw); go_simp; (first | done | with_reducible rfl))
      simp only [Act.put, List.setIfInBounds_toArray, List.set_cons_zero, List.set_cons_succ, List.getElem_toArray, List.getElem_cons_zero, List.getElem_cons_succ]
      refine wpAnyH_done (by kernel_rfl) ?_ _
      go_wp2_with fail
      go_roundw
      case rel => exact ⟨k + 1, _, by omega, by go_num, X9⟩
      case measure => simp [intOf]; omega
    · have hke : k = es.length := by omega
      subst hke
      have i0 : ¬ (es.length : Int) < (es.length : Int) := by omega
      obtain ⟨ra, rc, rfl⟩ := own_value HX.out.1
      go_wp2_with fail
      go_ret
      unfold CopiedX
      rw [hN]
      exact ⟨_, cells, rfl, HX.out.1, HX.out.2.1, HX.out.2.2⟩
end Go.Proofs.YtcnabebcckbfkaaDoor
