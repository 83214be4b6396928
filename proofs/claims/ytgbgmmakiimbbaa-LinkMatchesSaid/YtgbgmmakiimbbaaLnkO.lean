/- Layer 18: the reference's Send where there is room. -/
import Derived.Test.YtgbgmmakiimbbaaLnkN
namespace Go.Proofs.Ytgbgmmakiimbbaa
open Go.RowKit
theorem slice_src {n₀ size n : Nat} {w : World} {v : Value} {xs : List Value} (h : SliceAt n₀ w size v n xs) : (v = .slice none 0 0 ∧ xs = []) ∨ ∃ ad c, v = .slice (some ad) n c ∧ ∀ j y, xs[j]? = some y → w.cell? (ad.add j) = some y := by
  obtain ⟨hl, ⟨e0, hn⟩ | ⟨b, off, cap, e0, hn, hb, hc⟩⟩ := h
  · subst hn
    exact .inl ⟨e0, List.length_eq_zero_iff.1 (by simpa using hl)⟩
  · exact .inr ⟨_, cap, e0, fun j u hj => by rw [Go.WideShapes.add_plain]; exact hc j u hj⟩
set_option linter.unusedVariables false
theorem Four.later {w w' : World} {b : Nat} {t : TypeId} {x0 x1 x2 x3 : Value} (h : Four w b t x0 x1 x2 x3) (hb : Below w.heap.size w w') : Four w' b t x0 x1 x2 x3 := (hb.block b (Array.getElem?_eq_some_iff.1 h).1).trans h
theorem Four.lt {w : World} {b : Nat} {t : TypeId} {x0 x1 x2 x3 : Value} (h : Four w b t x0 x1 x2 x3) : b < w.heap.size := (Array.getElem?_eq_some_iff.1 h).1
theorem Four.kept {w w' : World} {b : Nat} {t : TypeId} {x0 x1 x2 x3 : Value} {row : Option Nat} (h : Four w b t x0 x1 x2 x3) (hg : w.grownBy w' row) (hne : some b ≠ row) : Four w' b t x0 x1 x2 x3 := (hg.block b h.lt hne).trans h
theorem Four.frozen {w : World} {b : Nat} {t : TypeId} {x0 x1 x2 x3 : Value} (h : Four w b t x0 x1 x2 x3) (j : Nat) : w.frozen? ⟨b, j, none⟩ = false := by
  simp [World.frozen?, show w.heap[b]? = _ from h]
theorem Four.set1 {w : World} {b : Nat} {t : TypeId} {x0 x1 x2 x3 : Value} (h : Four w b t x0 x1 x2 x3) (v : Value) : Four (w.setCell ⟨b, 1, none⟩ v) b t x0 v x2 x3 := h.set_heap 1 v
theorem Four.set2 {w : World} {b : Nat} {t : TypeId} {x0 x1 x2 x3 : Value} (h : Four w b t x0 x1 x2 x3) (v : Value) : Four (w.setCell ⟨b, 2, none⟩ v) b t x0 x1 v x3 := h.set_heap 2 v
theorem Four.set3 {w : World} {b : Nat} {t : TypeId} {x0 x1 x2 x3 : Value} (h : Four w b t x0 x1 x2 x3) (v : Value) : Four (w.setCell ⟨b, 3, none⟩ v) b t x0 x1 x2 v := h.set_heap 3 v
set_option maxHeartbeats 2000000 in
theorem refSend_room (cap : Int) (sv v : Value) (ms : List Ms) (zs : List Int) (rcv pk : Nat) (t : Tg) (n₀ B : Nat) (hn : ms.length ≤ 1099511627776) (hr : rcv ≤ ms.length) (hc : (ms.length : Int) - rcv < cap) (hpk : pk ≤ 1099511627776) (w : World)
    (h : SentAt n₀ B w sv ms) (h0 : n₀ ≤ w.heap.size) (hv : IntsW .i64 n₀ w v zs) :
    Calls Try.prog 11 #[encL cap sv rcv pk, encM t v] w fun e w' => ∃ sv', e = .returned (.tuple #[encL cap sv' rcv (max pk (ms.length + 1 - rcv)), .int .i64 0]) ∧ SentAt n₀ w.heap.size w' sv' (ms ++ [⟨t, zs⟩]) ∧ Below w.heap.size w w' := by
  obtain ⟨a, c, rfl⟩ := h.value
  obtain ⟨va, vc, rfl⟩ := hv.value
  have HS := Lib.hid h
  have HV := Lib.hid hv
  clear h hv
  obtain ⟨ta, tb, tc, td, te⟩ := t
  unfold encM
  have hL := Lib.hid (fun W => refLen_any cap a ms.length c rcv pk (by omega) (by omega) W)
  have hL2 := Lib.hid (fun a' c' W => refLen_any cap a' (ms.length + 1) c' rcv pk (by omega) (by omega) W)
  unfold encL at hL hL2 ⊢
  dsimp only
  have bA := (Below.refl w.heap.size w).alloc (Nat.le_refl _) (.cells #[.int .i64 cap, .slice a ms.length c, .int .i64 rcv, .int .i64 pk] 29)
  have bB := bA.alloc bA.size (.cells #[.int .i64 ta, .int .i64 tb, .int .i64 tc, .int .i64 td, .int .i64 te, .slice va zs.length vc] 34)
  have bC := bB.alloc bB.size (.cells #[.int .i64 0, .slice none 0 0, .int .i64 0, .int .i64 0] 29)
  have hg : decide (cap ≤ (ms.length : Int) - rcv) = false := by simp; omega
  go_enter Try.func11, Try.ntmps11
  go_upto_region 1 with fail
  obtain ⟨W, hW⟩ : ∃ W, W = (((w.alloc (.cells #[.int .i64 cap, .slice a ms.length c, .int .i64 rcv, .int .i64 pk] 29)).alloc (.cells #[.int .i64 ta, .int .i64 tb, .int .i64 tc, .int .i64 td, .int .i64 te, .slice va zs.length vc] 34)).alloc (.cells #[.int .i64 0, .slice none 0 0, .int .i64 0, .int .i64 0] 29)) := ⟨_, rfl⟩
  have F1 : Four W w.heap.size 29 (.int .i64 cap) (.slice a ms.length c) (.int .i64 rcv) (.int .i64 pk) := by
    rw [hW]
    exact ((((Below.refl _ _).alloc (Nat.le_refl _) (.cells #[.int .i64 ta, .int .i64 tb, .int .i64 tc, .int .i64 td, .int .i64 te, .slice va zs.length vc] 34)).alloc (by simp) (.cells #[.int .i64 0, .slice none 0 0, .int .i64 0, .int .i64 0] 29)).block _ (by simp)).trans (Four.new w _ _ _ _ _)
  have F2 : Four W (w.heap.size + 1 + 1) 29 (.int .i64 0) (.slice none 0 0) (.int .i64 0) (.int .i64 0) := by
    have := Four.new ((w.alloc (.cells #[.int .i64 cap, .slice a ms.length c, .int .i64 rcv, .int .i64 pk] 29)).alloc (.cells #[.int .i64 ta, .int .i64 tb, .int .i64 tc, .int .i64 td, .int .i64 te, .slice va zs.length vc] 34)) 29 (.int .i64 0) (.slice none 0 0) (.int .i64 0) (.int .i64 0)
    rw [hW]
    simpa using this
  have SM : Six W (w.heap.size + 1) 34 (.int .i64 ta) (.int .i64 tb) (.int .i64 tc) (.int .i64 td) (.int .i64 te) (.slice va zs.length vc) := by
    have := (Six.new (w.alloc (.cells #[.int .i64 cap, .slice a ms.length c, .int .i64 rcv, .int .i64 pk] 29)) 34 (.int .i64 ta) (.int .i64 tb) (.int .i64 tc) (.int .i64 td) (.int .i64 te) (.slice va zs.length vc)).later ((Below.refl _ _).alloc (Nat.le_refl _) (.cells #[.int .i64 0, .slice none 0 0, .int .i64 0, .int .i64 0] 29))
    rw [hW]
    simpa using this
  rw [← hW]
  rw [← hW] at bC
  clear bA bB hW
  obtain ⟨c0, c1, c2, c3⟩ := F1.cells
  have hsl : w.heap.size + 1 + 1 < W.heap.size := F2.lt
  refine wp_region_held_drew (S := fun w' => w'.cell? ⟨w.heap.size, 0, none⟩ = some (.int .i64 cap) ∧ w'.cell? ⟨w.heap.size, 1, none⟩ = some (.slice a ms.length c) ∧ w'.cell? ⟨w.heap.size, 2, none⟩ = some (.int .i64 rcv) ∧ w'.cell? ⟨w.heap.size, 3, none⟩ = some (.int .i64 pk) ∧ Below W.heap.size W w') (by kernel_rfl) ?_ (fun hHeld => ?_)
  · exact ⟨c0, c1, c2, c3, (Below.refl _ _).drew⟩
  refine wpAnyH_take (i := 0) (v := ?v1) rfl (by kernel_rfl) (by kernel_rfl) (by kernel_rfl) (fun _ _ _ h => h) (Or.inl ⟨by rfl, ?hy1⟩) (by assumption) ?rest1
  case hy1 => (intro w hSw; (try dsimp only at hSw); go_simp; (first | done | with_reducible rfl))
  simp only [Act.put, List.setIfInBounds_toArray, List.set_cons_zero, List.set_cons_succ, List.getElem_toArray, List.getElem_cons_zero]
  refine wpAnyH_take (i := 2) (v := ?v2) rfl (by kernel_rfl) (by kernel_rfl) (by kernel_rfl) (fun _ _ _ h => h) (Or.inl ⟨by rfl, ?hy2⟩) (by assumption) ?rest2
  case hy2 => (intro w hSw; (try dsimp only at hSw); go_simp; (first | done | with_reducible rfl))
  simp only [Act.put, List.setIfInBounds_toArray, List.set_cons_zero, List.set_cons_succ, List.getElem_toArray, List.getElem_cons_zero, List.getElem_cons_succ]
  refine wpAnyH_take (i := 3) (v := ?v3) rfl (by kernel_rfl) (by kernel_rfl) (by kernel_rfl) (fun _ _ _ h => h) (Or.inl ⟨by rfl, ?hy3⟩) (by assumption) ?rest3
  case hy3 => (intro w hSw; (try dsimp only at hSw); go_simp; (first | done | with_reducible rfl))
  simp only [Act.put, List.setIfInBounds_toArray, List.set_cons_zero, List.set_cons_succ, List.getElem_toArray, List.getElem_cons_zero, List.getElem_cons_succ]
  refine wpAnyH_ready (rs := [1]) (by kernel_rfl) (by simp) ?_
  refine AllReadyH.cons rfl (fun K hK => ?_) AllReadyH.nil
  simp only [List.getElem_toArray, List.getElem_cons_zero, List.getElem_cons_succ]
  obtain ⟨_, _, _, _, h_B⟩ := hHeld
  go_simp
  go_at_call 28
  refine (hL.out _).mono ?_
  rintro e w5 ⟨rfl, b5⟩
  have b6 : Below W.heap.size W w5 := h_B.trans (b5.mono h_B.size)
  go_wp2_with fail
  refine hK.out _ _ ⟨cell_step b6 c0, cell_step b6 c1, cell_step b6 c2, cell_step b6 c3, b6⟩ (fun hHeld => ?_)
  clear hK K b5 h_B
  try simp only [Act.put, List.setIfInBounds_toArray, List.set_cons_zero, List.set_cons_succ, List.getElem_toArray, List.getElem_cons_zero, List.getElem_cons_succ]
  refine wpAnyH_take (i := 4) (v := ?v4) rfl (by kernel_rfl) (by kernel_rfl) (by kernel_rfl) (fun _ _ _ h => h) (Or.inl ⟨by rfl, ?hy4⟩) (by assumption) ?rest4
  case hy4 => (intro w hSw; (try dsimp only at hSw); go_simp; (first | done | with_reducible rfl))
  simp only [Act.put, List.setIfInBounds_toArray, List.set_cons_zero, List.set_cons_succ, List.getElem_toArray, List.getElem_cons_zero, List.getElem_cons_succ]
  refine wpAnyH_done (by kernel_rfl) ?_ _
  have G1 := F1.later b6
  have G2 := Lib.hid (F2.later b6)
  have G3 := SM.later b6
  have B5 := Lib.hid (bC.trans (b6.mono bC.size))
  have hs5 : w.heap.size + 2 < w5.heap.size := G2.out.lt
  clear hHeld b6 c0 c1 c2 c3 F1 F2 SM bC hsl
  obtain ⟨c0, c1, c2, c3⟩ := G1.cells
  obtain ⟨⟨d0, d1, d2⟩, d3, d4, d5⟩ := G3.cells
  have G1h := Lib.hid G1
  have f1 := G1.frozen 1
  clear G1 c0 c2 c3
  obtain ⟨cs, hown, hcs⟩ := HS.out
  have hSrc := Lib.hid (SliceAt.of_owns (own_below hown B5.out))
  have hOne := Lib.hid (SentAt.one hown.1 hcs)
  have hLen := hown.1
  have HCS := Lib.hid hcs
  clear hown hcs HS
  go_upto_region 3 with fail
  refine wp_region_held_drew (S := fun w' => w'.cell? ⟨w.heap.size + 1, 0, none⟩ = some (.int .i64 ta) ∧ w'.cell? ⟨w.heap.size + 1, 1, none⟩ = some (.int .i64 tb) ∧ w'.cell? ⟨w.heap.size + 1, 2, none⟩ = some (.int .i64 tc) ∧ w'.cell? ⟨w.heap.size + 1, 3, none⟩ = some (.int .i64 td) ∧ w'.cell? ⟨w.heap.size + 1, 4, none⟩ = some (.int .i64 te) ∧ w'.cell? ⟨w.heap.size + 1, 5, none⟩ = some (.slice va zs.length vc)) (by kernel_rfl) ?_ (fun hHeld => ?_)
  · exact ⟨d0, d1, d2, d3, d4, d5⟩
  refine wpAnyH_take (i := 1) (v := ?v5) rfl (by kernel_rfl) (by kernel_rfl) (by kernel_rfl) (fun _ _ _ h => h) (Or.inl ⟨by rfl, ?hy5⟩) (by assumption) ?rest5
  case hy5 => (intro w hSw; (try dsimp only at hSw); go_simp; (first | done | with_reducible rfl))
  simp only [Act.put, List.setIfInBounds_toArray, List.set_cons_zero, List.set_cons_succ, List.getElem_toArray, List.getElem_cons_zero, List.getElem_cons_succ]
  refine wpAnyH_take (i := 4) (v := ?v6) rfl (by kernel_rfl) (by kernel_rfl) (by kernel_rfl) (fun _ _ _ h => h) (Or.inl ⟨by rfl, ?hy6⟩) (by assumption) ?rest6
  case hy6 => (intro w hSw; (try dsimp only at hSw); go_simp; (first | done | with_reducible rfl))
  simp only [Act.put, List.setIfInBounds_toArray, List.set_cons_zero, List.set_cons_succ, List.getElem_toArray, List.getElem_cons_zero, List.getElem_cons_succ]
  have bX0 : Below w5.heap.size w5 w5.drew := (Below.refl _ _).drew
  generalize w5.drew = X0 at *
  refine (fun (TAIL : Hid (?G : Prop)) => ?main) (Lib.hid ?tail)
  case main =>
    refine wpAnyH_ready (rs := [0, 2, 5]) (by kernel_rfl) (by simp) ?_
    refine AllReadyH.cons rfl (fun K hK => ?_) ?_
    · skip
      try simp only [Act.put, List.setIfInBounds_toArray, List.set_cons_zero, List.set_cons_succ, List.getElem_toArray, List.getElem_cons_zero]
      go_simp
      have bX1 : Below w5.heap.size w5 (X0.alloc (.cells #[] 34)) := bX0.alloc bX0.size _
      have bXY : Below X0.heap.size X0 (X0.alloc (.cells #[] 34)) := (Below.refl _ _).alloc (Nat.le_refl _) _
      have O12 : (X0.alloc (.cells #[] 34)).ownsRow w5.heap.size 34 6 (.slice (some ⟨X0.heap.size, 0, none⟩) 0 0) 0 [] := World.ownsRow_made (base := w5.heap.size) (e := 34) (size := 6) X0 #[] 0 bX0.size (Nat.zero_le _) (by simp)
      refine hK.out _ _ ⟨cell_step bX1 d0, cell_step bX1 d1, cell_step bX1 d2, cell_step bX1 d3, cell_step bX1 d4, cell_step bX1 d5⟩ (fun hHeld => ?_)
      clear hK K bXY
      try simp only [Act.put, List.setIfInBounds_toArray, List.set_cons_zero, List.set_cons_succ, List.getElem_toArray, List.getElem_cons_zero, List.getElem_cons_succ]
      generalize X0.alloc (.cells #[] 34) = X1 at *
      generalize Value.slice (some ⟨X0.heap.size, 0, none⟩) 0 0 = z12 at *
      refine wpAnyH_ready (rs := [2, 5]) (by kernel_rfl) (by simp) ?_
      refine AllReadyH.cons rfl (fun K hK => ?_) ?_
      · skip
        try simp only [Act.put, List.setIfInBounds_toArray, List.set_cons_zero, List.set_cons_succ, List.getElem_toArray, List.getElem_cons_zero, List.getElem_cons_succ]
        have x1 := cell_step bX1 c1
        go_simp
        refine hK.out _ _ ⟨cell_step bX1 d0, cell_step bX1 d1, cell_step bX1 d2, cell_step bX1 d3, cell_step bX1 d4, cell_step bX1 d5⟩ (fun hHeld => ?_)
        clear hK K x1
        try simp only [Act.put, List.setIfInBounds_toArray, List.set_cons_zero, List.set_cons_succ, List.getElem_toArray, List.getElem_cons_zero, List.getElem_cons_succ]
        refine wpAnyH_ready (rs := [3, 5]) (by kernel_rfl) (by simp) ?_
        refine AllReadyH.cons rfl (fun K hK => ?_) ?_
        · skip
          try simp only [Act.put, List.setIfInBounds_toArray, List.set_cons_zero, List.set_cons_succ, List.getElem_toArray, List.getElem_cons_zero, List.getElem_cons_succ]
          try simp only [Act.put, List.setIfInBounds_toArray, List.set_cons_zero, List.set_cons_succ]
          refine step_list (a := ⟨_, _⟩) (W := X1) (base := w5.heap.size) (v := z12) (u := .slice a ms.length c) (n := 0) (m := ms.length) (xs := []) (ys := cs) elemM (by rfl) _ _ (by rfl) (by rfl) (by rfl) O12 hLen (slice_src (hSrc.out.below bX1)) hOne.out ?_ ?_ bX1.size ?_
          · unfold maxLen; omega
          · omega
          intro v15 X2 O15 gY
          rw [Nat.zero_add, List.nil_append] at O15
          have bX2 := below_appended bX1 O12 gY (Nat.le_refl _) bX1.size
          refine hK.out _ _ ⟨cell_step bX2 d0, cell_step bX2 d1, cell_step bX2 d2, cell_step bX2 d3, cell_step bX2 d4, cell_step bX2 d5⟩ (fun hHeld => ?_)
          clear hK K gY O12
          try simp only [Act.put, List.setIfInBounds_toArray, List.set_cons_zero, List.set_cons_succ]
          refine wpAnyH_ready (rs := [5]) (by kernel_rfl) (by simp) ?_
          refine AllReadyH.cons rfl (fun K hK => ?_) AllReadyH.nil
          try simp only [Act.put, List.setIfInBounds_toArray, List.set_cons_zero, List.set_cons_succ, List.getElem_toArray, List.getElem_cons_zero, List.getElem_cons_succ]
          go_simp
          have bX3 : Below w5.heap.size w5 (X2.alloc (.cells #[.int .i64 ta, .int .i64 tb, .int .i64 tc, .int .i64 td, .int .i64 te, .slice va zs.length vc] 34)) := bX2.alloc bX2.size _
          have bXY : Below X2.heap.size X2 (X2.alloc (.cells #[.int .i64 ta, .int .i64 tb, .int .i64 tc, .int .i64 td, .int .i64 te, .slice va zs.length vc] 34)) := (Below.refl _ _).alloc (Nat.le_refl _) _
          have S17 := Six.new X2 34 (.int .i64 ta) (.int .i64 tb) (.int .i64 tc) (.int .i64 td) (.int .i64 te) (.slice va zs.length vc)
          replace O15 := own_below O15 bXY
          refine hK.out _ _ ⟨cell_step bX3 d0, cell_step bX3 d1, cell_step bX3 d2, cell_step bX3 d3, cell_step bX3 d4, cell_step bX3 d5⟩ (fun hHeld => ?_)
          clear hK K bXY
          try simp only [Act.put, List.setIfInBounds_toArray, List.set_cons_zero, List.set_cons_succ, List.getElem_toArray, List.getElem_cons_zero, List.getElem_cons_succ]
          generalize X2.alloc (.cells #[.int .i64 ta, .int .i64 tb, .int .i64 tc, .int .i64 td, .int .i64 te, .slice va zs.length vc] 34) = X3 at *
          obtain ⟨g17, hg17⟩ : ∃ g, g = X2.heap.size := ⟨_, rfl⟩
          rw [← hg17] at S17 ⊢
          clear hg17
          have F := Lib.hid (And.intro O15 (And.intro S17 bX3))
          clear O15 S17 hHeld bX3
          revert X3 v15 g17 z12
          exact TAIL.out
        refine AllReadyH.cons rfl (fun K hK => ?_) AllReadyH.nil
        try simp only [Act.put, List.setIfInBounds_toArray, List.set_cons_zero, List.set_cons_succ, List.getElem_toArray, List.getElem_cons_zero, List.getElem_cons_succ]
        go_simp
        have bX2 : Below w5.heap.size w5 (X1.alloc (.cells #[.int .i64 ta, .int .i64 tb, .int .i64 tc, .int .i64 td, .int .i64 te, .slice va zs.length vc] 34)) := bX1.alloc bX1.size _
        have bXY : Below X1.heap.size X1 (X1.alloc (.cells #[.int .i64 ta, .int .i64 tb, .int .i64 tc, .int .i64 td, .int .i64 te, .slice va zs.length vc] 34)) := (Below.refl _ _).alloc (Nat.le_refl _) _
        have S17 := Six.new X1 34 (.int .i64 ta) (.int .i64 tb) (.int .i64 tc) (.int .i64 td) (.int .i64 te) (.slice va zs.length vc)
        have NE : ∀ k, z12.ownBlock = some k → k ≠ X1.heap.size := fun k e => by have := (O12.lt k e).2; omega
        replace O12 := own_below O12 bXY
        refine hK.out _ _ ⟨cell_step bX2 d0, cell_step bX2 d1, cell_step bX2 d2, cell_step bX2 d3, cell_step bX2 d4, cell_step bX2 d5⟩ (fun hHeld => ?_)
        clear hK K bXY
        try simp only [Act.put, List.setIfInBounds_toArray, List.set_cons_zero, List.set_cons_succ, List.getElem_toArray, List.getElem_cons_zero, List.getElem_cons_succ]
        generalize X1.alloc (.cells #[.int .i64 ta, .int .i64 tb, .int .i64 tc, .int .i64 td, .int .i64 te, .slice va zs.length vc] 34) = X2 at *
        obtain ⟨g17, hg17⟩ : ∃ g, g = X1.heap.size := ⟨_, rfl⟩
        rw [← hg17] at S17 ⊢
        rw [← hg17] at NE
        clear hg17
        refine wpAnyH_ready (rs := [3]) (by kernel_rfl) (by simp) ?_
        refine AllReadyH.cons rfl (fun K hK => ?_) AllReadyH.nil
        try simp only [Act.put, List.setIfInBounds_toArray, List.set_cons_zero, List.set_cons_succ, List.getElem_toArray, List.getElem_cons_zero, List.getElem_cons_succ]
        try simp only [Act.put, List.setIfInBounds_toArray, List.set_cons_zero, List.set_cons_succ]
        refine step_list (a := ⟨_, _⟩) (W := X2) (base := w5.heap.size) (v := z12) (u := .slice a ms.length c) (n := 0) (m := ms.length) (xs := []) (ys := cs) elemM (by rfl) _ _ (by rfl) (by rfl) (by rfl) O12 hLen (slice_src (hSrc.out.below bX2)) hOne.out ?_ ?_ bX2.size ?_
        · unfold maxLen; omega
        · omega
        intro v15 X3 O15 gY
        rw [Nat.zero_add, List.nil_append] at O15
        have bX3 := below_appended bX2 O12 gY (Nat.le_refl _) bX2.size
        replace S17 := S17.kept gY (fun e => NE g17 e.symm rfl)
        clear NE
        refine hK.out _ _ ⟨cell_step bX3 d0, cell_step bX3 d1, cell_step bX3 d2, cell_step bX3 d3, cell_step bX3 d4, cell_step bX3 d5⟩ (fun hHeld => ?_)
        clear hK K gY O12
        try simp only [Act.put, List.setIfInBounds_toArray, List.set_cons_zero, List.set_cons_succ]
        have F := Lib.hid (And.intro O15 (And.intro S17 bX3))
        clear O15 S17 hHeld bX3
        exact TAIL.out _ _ _ _ F
      refine AllReadyH.cons rfl (fun K hK => ?_) AllReadyH.nil
      try simp only [Act.put, List.setIfInBounds_toArray, List.set_cons_zero, List.set_cons_succ, List.getElem_toArray, List.getElem_cons_zero, List.getElem_cons_succ]
      go_simp
      have bX2 : Below w5.heap.size w5 (X1.alloc (.cells #[.int .i64 ta, .int .i64 tb, .int .i64 tc, .int .i64 td, .int .i64 te, .slice va zs.length vc] 34)) := bX1.alloc bX1.size _
      have bXY : Below X1.heap.size X1 (X1.alloc (.cells #[.int .i64 ta, .int .i64 tb, .int .i64 tc, .int .i64 td, .int .i64 te, .slice va zs.length vc] 34)) := (Below.refl _ _).alloc (Nat.le_refl _) _
      have S17 := Six.new X1 34 (.int .i64 ta) (.int .i64 tb) (.int .i64 tc) (.int .i64 td) (.int .i64 te) (.slice va zs.length vc)
      have NE : ∀ k, z12.ownBlock = some k → k ≠ X1.heap.size := fun k e => by have := (O12.lt k e).2; omega
      replace O12 := own_below O12 bXY
      refine hK.out _ _ ⟨cell_step bX2 d0, cell_step bX2 d1, cell_step bX2 d2, cell_step bX2 d3, cell_step bX2 d4, cell_step bX2 d5⟩ (fun hHeld => ?_)
      clear hK K bXY
      try simp only [Act.put, List.setIfInBounds_toArray, List.set_cons_zero, List.set_cons_succ, List.getElem_toArray, List.getElem_cons_zero, List.getElem_cons_succ]
      generalize X1.alloc (.cells #[.int .i64 ta, .int .i64 tb, .int .i64 tc, .int .i64 td, .int .i64 te, .slice va zs.length vc] 34) = X2 at *
      obtain ⟨g17, hg17⟩ : ∃ g, g = X1.heap.size := ⟨_, rfl⟩
      rw [← hg17] at S17 ⊢
      rw [← hg17] at NE
      clear hg17
      refine wpAnyH_ready (rs := [2]) (by kernel_rfl) (by simp) ?_
      refine AllReadyH.cons rfl (fun K hK => ?_) AllReadyH.nil
      try simp only [Act.put, List.setIfInBounds_toArray, List.set_cons_zero, List.set_cons_succ, List.getElem_toArray, List.getElem_cons_zero, List.getElem_cons_succ]
      have x1 := cell_step bX2 c1
      go_simp
      refine hK.out _ _ ⟨cell_step bX2 d0, cell_step bX2 d1, cell_step bX2 d2, cell_step bX2 d3, cell_step bX2 d4, cell_step bX2 d5⟩ (fun hHeld => ?_)
      clear hK K x1
      try simp only [Act.put, List.setIfInBounds_toArray, List.set_cons_zero, List.set_cons_succ, List.getElem_toArray, List.getElem_cons_zero, List.getElem_cons_succ]
      refine wpAnyH_ready (rs := [3]) (by kernel_rfl) (by simp) ?_
      refine AllReadyH.cons rfl (fun K hK => ?_) AllReadyH.nil
      try simp only [Act.put, List.setIfInBounds_toArray, List.set_cons_zero, List.set_cons_succ, List.getElem_toArray, List.getElem_cons_zero, List.getElem_cons_succ]
      try simp only [Act.put, List.setIfInBounds_toArray, List.set_cons_zero, List.set_cons_succ]
      refine step_list (a := ⟨_, _⟩) (W := X2) (base := w5.heap.size) (v := z12) (u := .slice a ms.length c) (n := 0) (m := ms.length) (xs := []) (ys := cs) elemM (by rfl) _ _ (by rfl) (by rfl) (by rfl) O12 hLen (slice_src (hSrc.out.below bX2)) hOne.out ?_ ?_ bX2.size ?_
      · unfold maxLen; omega
      · omega
      intro v15 X3 O15 gY
      rw [Nat.zero_add, List.nil_append] at O15
      have bX3 := below_appended bX2 O12 gY (Nat.le_refl _) bX2.size
      replace S17 := S17.kept gY (fun e => NE g17 e.symm rfl)
      clear NE
      refine hK.out _ _ ⟨cell_step bX3 d0, cell_step bX3 d1, cell_step bX3 d2, cell_step bX3 d3, cell_step bX3 d4, cell_step bX3 d5⟩ (fun hHeld => ?_)
      clear hK K gY O12
      try simp only [Act.put, List.setIfInBounds_toArray, List.set_cons_zero, List.set_cons_succ]
      have F := Lib.hid (And.intro O15 (And.intro S17 bX3))
      clear O15 S17 hHeld bX3
      exact TAIL.out _ _ _ _ F
    refine AllReadyH.cons rfl (fun K hK => ?_) ?_
    · skip
      try simp only [Act.put, List.setIfInBounds_toArray, List.set_cons_zero, List.set_cons_succ, List.getElem_toArray, List.getElem_cons_zero, List.getElem_cons_succ]
      have x1 := cell_step bX0 c1
      go_simp
      refine hK.out _ _ ⟨cell_step bX0 d0, cell_step bX0 d1, cell_step bX0 d2, cell_step bX0 d3, cell_step bX0 d4, cell_step bX0 d5⟩ (fun hHeld => ?_)
      clear hK K x1
      try simp only [Act.put, List.setIfInBounds_toArray, List.set_cons_zero, List.set_cons_succ, List.getElem_toArray, List.getElem_cons_zero, List.getElem_cons_succ]
      refine wpAnyH_ready (rs := [0, 5]) (by kernel_rfl) (by simp) ?_
      refine AllReadyH.cons rfl (fun K hK => ?_) ?_
      · skip
        try simp only [Act.put, List.setIfInBounds_toArray, List.set_cons_zero, List.set_cons_succ, List.getElem_toArray, List.getElem_cons_zero]
        go_simp
        have bX1 : Below w5.heap.size w5 (X0.alloc (.cells #[] 34)) := bX0.alloc bX0.size _
        have bXY : Below X0.heap.size X0 (X0.alloc (.cells #[] 34)) := (Below.refl _ _).alloc (Nat.le_refl _) _
        have O12 : (X0.alloc (.cells #[] 34)).ownsRow w5.heap.size 34 6 (.slice (some ⟨X0.heap.size, 0, none⟩) 0 0) 0 [] := World.ownsRow_made (base := w5.heap.size) (e := 34) (size := 6) X0 #[] 0 bX0.size (Nat.zero_le _) (by simp)
        refine hK.out _ _ ⟨cell_step bX1 d0, cell_step bX1 d1, cell_step bX1 d2, cell_step bX1 d3, cell_step bX1 d4, cell_step bX1 d5⟩ (fun hHeld => ?_)
        clear hK K bXY
        try simp only [Act.put, List.setIfInBounds_toArray, List.set_cons_zero, List.set_cons_succ, List.getElem_toArray, List.getElem_cons_zero, List.getElem_cons_succ]
        generalize X0.alloc (.cells #[] 34) = X1 at *
        generalize Value.slice (some ⟨X0.heap.size, 0, none⟩) 0 0 = z12 at *
        refine wpAnyH_ready (rs := [3, 5]) (by kernel_rfl) (by simp) ?_
        refine AllReadyH.cons rfl (fun K hK => ?_) ?_
        · skip
          try simp only [Act.put, List.setIfInBounds_toArray, List.set_cons_zero, List.set_cons_succ, List.getElem_toArray, List.getElem_cons_zero, List.getElem_cons_succ]
          try simp only [Act.put, List.setIfInBounds_toArray, List.set_cons_zero, List.set_cons_succ]
          refine step_list (a := ⟨_, _⟩) (W := X1) (base := w5.heap.size) (v := z12) (u := .slice a ms.length c) (n := 0) (m := ms.length) (xs := []) (ys := cs) elemM (by rfl) _ _ (by rfl) (by rfl) (by rfl) O12 hLen (slice_src (hSrc.out.below bX1)) hOne.out ?_ ?_ bX1.size ?_
          · unfold maxLen; omega
          · omega
          intro v15 X2 O15 gY
          rw [Nat.zero_add, List.nil_append] at O15
          have bX2 := below_appended bX1 O12 gY (Nat.le_refl _) bX1.size
          refine hK.out _ _ ⟨cell_step bX2 d0, cell_step bX2 d1, cell_step bX2 d2, cell_step bX2 d3, cell_step bX2 d4, cell_step bX2 d5⟩ (fun hHeld => ?_)
          clear hK K gY O12
          try simp only [Act.put, List.setIfInBounds_toArray, List.set_cons_zero, List.set_cons_succ]
          refine wpAnyH_ready (rs := [5]) (by kernel_rfl) (by simp) ?_
          refine AllReadyH.cons rfl (fun K hK => ?_) AllReadyH.nil
          try simp only [Act.put, List.setIfInBounds_toArray, List.set_cons_zero, List.set_cons_succ, List.getElem_toArray, List.getElem_cons_zero, List.getElem_cons_succ]
          go_simp
          have bX3 : Below w5.heap.size w5 (X2.alloc (.cells #[.int .i64 ta, .int .i64 tb, .int .i64 tc, .int .i64 td, .int .i64 te, .slice va zs.length vc] 34)) := bX2.alloc bX2.size _
          have bXY : Below X2.heap.size X2 (X2.alloc (.cells #[.int .i64 ta, .int .i64 tb, .int .i64 tc, .int .i64 td, .int .i64 te, .slice va zs.length vc] 34)) := (Below.refl _ _).alloc (Nat.le_refl _) _
          have S17 := Six.new X2 34 (.int .i64 ta) (.int .i64 tb) (.int .i64 tc) (.int .i64 td) (.int .i64 te) (.slice va zs.length vc)
          replace O15 := own_below O15 bXY
          refine hK.out _ _ ⟨cell_step bX3 d0, cell_step bX3 d1, cell_step bX3 d2, cell_step bX3 d3, cell_step bX3 d4, cell_step bX3 d5⟩ (fun hHeld => ?_)
          clear hK K bXY
          try simp only [Act.put, List.setIfInBounds_toArray, List.set_cons_zero, List.set_cons_succ, List.getElem_toArray, List.getElem_cons_zero, List.getElem_cons_succ]
          generalize X2.alloc (.cells #[.int .i64 ta, .int .i64 tb, .int .i64 tc, .int .i64 td, .int .i64 te, .slice va zs.length vc] 34) = X3 at *
          obtain ⟨g17, hg17⟩ : ∃ g, g = X2.heap.size := ⟨_, rfl⟩
          rw [← hg17] at S17 ⊢
          clear hg17
          have F := Lib.hid (And.intro O15 (And.intro S17 bX3))
          clear O15 S17 hHeld bX3
          exact TAIL.out _ _ _ _ F
        refine AllReadyH.cons rfl (fun K hK => ?_) AllReadyH.nil
        try simp only [Act.put, List.setIfInBounds_toArray, List.set_cons_zero, List.set_cons_succ, List.getElem_toArray, List.getElem_cons_zero, List.getElem_cons_succ]
        go_simp
        have bX2 : Below w5.heap.size w5 (X1.alloc (.cells #[.int .i64 ta, .int .i64 tb, .int .i64 tc, .int .i64 td, .int .i64 te, .slice va zs.length vc] 34)) := bX1.alloc bX1.size _
        have bXY : Below X1.heap.size X1 (X1.alloc (.cells #[.int .i64 ta, .int .i64 tb, .int .i64 tc, .int .i64 td, .int .i64 te, .slice va zs.length vc] 34)) := (Below.refl _ _).alloc (Nat.le_refl _) _
        have S17 := Six.new X1 34 (.int .i64 ta) (.int .i64 tb) (.int .i64 tc) (.int .i64 td) (.int .i64 te) (.slice va zs.length vc)
        have NE : ∀ k, z12.ownBlock = some k → k ≠ X1.heap.size := fun k e => by have := (O12.lt k e).2; omega
        replace O12 := own_below O12 bXY
        refine hK.out _ _ ⟨cell_step bX2 d0, cell_step bX2 d1, cell_step bX2 d2, cell_step bX2 d3, cell_step bX2 d4, cell_step bX2 d5⟩ (fun hHeld => ?_)
        clear hK K bXY
        try simp only [Act.put, List.setIfInBounds_toArray, List.set_cons_zero, List.set_cons_succ, List.getElem_toArray, List.getElem_cons_zero, List.getElem_cons_succ]
        generalize X1.alloc (.cells #[.int .i64 ta, .int .i64 tb, .int .i64 tc, .int .i64 td, .int .i64 te, .slice va zs.length vc] 34) = X2 at *
        obtain ⟨g17, hg17⟩ : ∃ g, g = X1.heap.size := ⟨_, rfl⟩
        rw [← hg17] at S17 ⊢
        rw [← hg17] at NE
        clear hg17
        refine wpAnyH_ready (rs := [3]) (by kernel_rfl) (by simp) ?_
        refine AllReadyH.cons rfl (fun K hK => ?_) AllReadyH.nil
        try simp only [Act.put, List.setIfInBounds_toArray, List.set_cons_zero, List.set_cons_succ, List.getElem_toArray, List.getElem_cons_zero, List.getElem_cons_succ]
        try simp only [Act.put, List.setIfInBounds_toArray, List.set_cons_zero, List.set_cons_succ]
        refine step_list (a := ⟨_, _⟩) (W := X2) (base := w5.heap.size) (v := z12) (u := .slice a ms.length c) (n := 0) (m := ms.length) (xs := []) (ys := cs) elemM (by rfl) _ _ (by rfl) (by rfl) (by rfl) O12 hLen (slice_src (hSrc.out.below bX2)) hOne.out ?_ ?_ bX2.size ?_
        · unfold maxLen; omega
        · omega
        intro v15 X3 O15 gY
        rw [Nat.zero_add, List.nil_append] at O15
        have bX3 := below_appended bX2 O12 gY (Nat.le_refl _) bX2.size
        replace S17 := S17.kept gY (fun e => NE g17 e.symm rfl)
        clear NE
        refine hK.out _ _ ⟨cell_step bX3 d0, cell_step bX3 d1, cell_step bX3 d2, cell_step bX3 d3, cell_step bX3 d4, cell_step bX3 d5⟩ (fun hHeld => ?_)
        clear hK K gY O12
        try simp only [Act.put, List.setIfInBounds_toArray, List.set_cons_zero, List.set_cons_succ]
        have F := Lib.hid (And.intro O15 (And.intro S17 bX3))
        clear O15 S17 hHeld bX3
        exact TAIL.out _ _ _ _ F
      refine AllReadyH.cons rfl (fun K hK => ?_) AllReadyH.nil
      try simp only [Act.put, List.setIfInBounds_toArray, List.set_cons_zero, List.set_cons_succ, List.getElem_toArray, List.getElem_cons_zero, List.getElem_cons_succ]
      go_simp
      have bX1 : Below w5.heap.size w5 (X0.alloc (.cells #[.int .i64 ta, .int .i64 tb, .int .i64 tc, .int .i64 td, .int .i64 te, .slice va zs.length vc] 34)) := bX0.alloc bX0.size _
      have bXY : Below X0.heap.size X0 (X0.alloc (.cells #[.int .i64 ta, .int .i64 tb, .int .i64 tc, .int .i64 td, .int .i64 te, .slice va zs.length vc] 34)) := (Below.refl _ _).alloc (Nat.le_refl _) _
      have S17 := Six.new X0 34 (.int .i64 ta) (.int .i64 tb) (.int .i64 tc) (.int .i64 td) (.int .i64 te) (.slice va zs.length vc)
      refine hK.out _ _ ⟨cell_step bX1 d0, cell_step bX1 d1, cell_step bX1 d2, cell_step bX1 d3, cell_step bX1 d4, cell_step bX1 d5⟩ (fun hHeld => ?_)
      clear hK K bXY
      try simp only [Act.put, List.setIfInBounds_toArray, List.set_cons_zero, List.set_cons_succ, List.getElem_toArray, List.getElem_cons_zero, List.getElem_cons_succ]
      generalize X0.alloc (.cells #[.int .i64 ta, .int .i64 tb, .int .i64 tc, .int .i64 td, .int .i64 te, .slice va zs.length vc] 34) = X1 at *
      obtain ⟨g17, hg17⟩ : ∃ g, g = X0.heap.size := ⟨_, rfl⟩
      rw [← hg17] at S17 ⊢
      clear hg17
      refine wpAnyH_ready (rs := [0]) (by kernel_rfl) (by simp) ?_
      refine AllReadyH.cons rfl (fun K hK => ?_) AllReadyH.nil
      try simp only [Act.put, List.setIfInBounds_toArray, List.set_cons_zero, List.set_cons_succ, List.getElem_toArray, List.getElem_cons_zero]
      go_simp
      have bX2 : Below w5.heap.size w5 (X1.alloc (.cells #[] 34)) := bX1.alloc bX1.size _
      have bXY : Below X1.heap.size X1 (X1.alloc (.cells #[] 34)) := (Below.refl _ _).alloc (Nat.le_refl _) _
      have O12 : (X1.alloc (.cells #[] 34)).ownsRow w5.heap.size 34 6 (.slice (some ⟨X1.heap.size, 0, none⟩) 0 0) 0 [] := World.ownsRow_made (base := w5.heap.size) (e := 34) (size := 6) X1 #[] 0 bX1.size (Nat.zero_le _) (by simp)
      have NE : ∀ k, (Value.slice (some ⟨X1.heap.size, 0, none⟩) 0 0).ownBlock = some k → k ≠ g17 := fun k e => by have := S17.lt; have e : X1.heap.size = k := Option.some.inj e; omega
      replace S17 := S17.later bXY
      refine hK.out _ _ ⟨cell_step bX2 d0, cell_step bX2 d1, cell_step bX2 d2, cell_step bX2 d3, cell_step bX2 d4, cell_step bX2 d5⟩ (fun hHeld => ?_)
      clear hK K bXY
      try simp only [Act.put, List.setIfInBounds_toArray, List.set_cons_zero, List.set_cons_succ, List.getElem_toArray, List.getElem_cons_zero, List.getElem_cons_succ]
      generalize X1.alloc (.cells #[] 34) = X2 at *
      generalize Value.slice (some ⟨X1.heap.size, 0, none⟩) 0 0 = z12 at *
      refine wpAnyH_ready (rs := [3]) (by kernel_rfl) (by simp) ?_
      refine AllReadyH.cons rfl (fun K hK => ?_) AllReadyH.nil
      try simp only [Act.put, List.setIfInBounds_toArray, List.set_cons_zero, List.set_cons_succ, List.getElem_toArray, List.getElem_cons_zero, List.getElem_cons_succ]
      try simp only [Act.put, List.setIfInBounds_toArray, List.set_cons_zero, List.set_cons_succ]
      refine step_list (a := ⟨_, _⟩) (W := X2) (base := w5.heap.size) (v := z12) (u := .slice a ms.length c) (n := 0) (m := ms.length) (xs := []) (ys := cs) elemM (by rfl) _ _ (by rfl) (by rfl) (by rfl) O12 hLen (slice_src (hSrc.out.below bX2)) hOne.out ?_ ?_ bX2.size ?_
      · unfold maxLen; omega
      · omega
      intro v15 X3 O15 gY
      rw [Nat.zero_add, List.nil_append] at O15
      have bX3 := below_appended bX2 O12 gY (Nat.le_refl _) bX2.size
      replace S17 := S17.kept gY (fun e => NE g17 e.symm rfl)
      clear NE
      refine hK.out _ _ ⟨cell_step bX3 d0, cell_step bX3 d1, cell_step bX3 d2, cell_step bX3 d3, cell_step bX3 d4, cell_step bX3 d5⟩ (fun hHeld => ?_)
      clear hK K gY O12
      try simp only [Act.put, List.setIfInBounds_toArray, List.set_cons_zero, List.set_cons_succ]
      have F := Lib.hid (And.intro O15 (And.intro S17 bX3))
      clear O15 S17 hHeld bX3
      exact TAIL.out _ _ _ _ F
    refine AllReadyH.cons rfl (fun K hK => ?_) AllReadyH.nil
    try simp only [Act.put, List.setIfInBounds_toArray, List.set_cons_zero, List.set_cons_succ, List.getElem_toArray, List.getElem_cons_zero, List.getElem_cons_succ]
    go_simp
    have bX1 : Below w5.heap.size w5 (X0.alloc (.cells #[.int .i64 ta, .int .i64 tb, .int .i64 tc, .int .i64 td, .int .i64 te, .slice va zs.length vc] 34)) := bX0.alloc bX0.size _
    have bXY : Below X0.heap.size X0 (X0.alloc (.cells #[.int .i64 ta, .int .i64 tb, .int .i64 tc, .int .i64 td, .int .i64 te, .slice va zs.length vc] 34)) := (Below.refl _ _).alloc (Nat.le_refl _) _
    have S17 := Six.new X0 34 (.int .i64 ta) (.int .i64 tb) (.int .i64 tc) (.int .i64 td) (.int .i64 te) (.slice va zs.length vc)
    refine hK.out _ _ ⟨cell_step bX1 d0, cell_step bX1 d1, cell_step bX1 d2, cell_step bX1 d3, cell_step bX1 d4, cell_step bX1 d5⟩ (fun hHeld => ?_)
    clear hK K bXY
    try simp only [Act.put, List.setIfInBounds_toArray, List.set_cons_zero, List.set_cons_succ, List.getElem_toArray, List.getElem_cons_zero, List.getElem_cons_succ]
    generalize X0.alloc (.cells #[.int .i64 ta, .int .i64 tb, .int .i64 tc, .int .i64 td, .int .i64 te, .slice va zs.length vc] 34) = X1 at *
    obtain ⟨g17, hg17⟩ : ∃ g, g = X0.heap.size := ⟨_, rfl⟩
    rw [← hg17] at S17 ⊢
    clear hg17
    refine wpAnyH_ready (rs := [0, 2]) (by kernel_rfl) (by simp) ?_
    refine AllReadyH.cons rfl (fun K hK => ?_) ?_
    · skip
      try simp only [Act.put, List.setIfInBounds_toArray, List.set_cons_zero, List.set_cons_succ, List.getElem_toArray, List.getElem_cons_zero]
      go_simp
      have bX2 : Below w5.heap.size w5 (X1.alloc (.cells #[] 34)) := bX1.alloc bX1.size _
      have bXY : Below X1.heap.size X1 (X1.alloc (.cells #[] 34)) := (Below.refl _ _).alloc (Nat.le_refl _) _
      have O12 : (X1.alloc (.cells #[] 34)).ownsRow w5.heap.size 34 6 (.slice (some ⟨X1.heap.size, 0, none⟩) 0 0) 0 [] := World.ownsRow_made (base := w5.heap.size) (e := 34) (size := 6) X1 #[] 0 bX1.size (Nat.zero_le _) (by simp)
      have NE : ∀ k, (Value.slice (some ⟨X1.heap.size, 0, none⟩) 0 0).ownBlock = some k → k ≠ g17 := fun k e => by have := S17.lt; have e : X1.heap.size = k := Option.some.inj e; omega
      replace S17 := S17.later bXY
      refine hK.out _ _ ⟨cell_step bX2 d0, cell_step bX2 d1, cell_step bX2 d2, cell_step bX2 d3, cell_step bX2 d4, cell_step bX2 d5⟩ (fun hHeld => ?_)
      clear hK K bXY
      try simp only [Act.put, List.setIfInBounds_toArray, List.set_cons_zero, List.set_cons_succ, List.getElem_toArray, List.getElem_cons_zero, List.getElem_cons_succ]
      generalize X1.alloc (.cells #[] 34) = X2 at *
      generalize Value.slice (some ⟨X1.heap.size, 0, none⟩) 0 0 = z12 at *
      refine wpAnyH_ready (rs := [2]) (by kernel_rfl) (by simp) ?_
      refine AllReadyH.cons rfl (fun K hK => ?_) AllReadyH.nil
      try simp only [Act.put, List.setIfInBounds_toArray, List.set_cons_zero, List.set_cons_succ, List.getElem_toArray, List.getElem_cons_zero, List.getElem_cons_succ]
      have x1 := cell_step bX2 c1
      go_simp
      refine hK.out _ _ ⟨cell_step bX2 d0, cell_step bX2 d1, cell_step bX2 d2, cell_step bX2 d3, cell_step bX2 d4, cell_step bX2 d5⟩ (fun hHeld => ?_)
      clear hK K x1
      try simp only [Act.put, List.setIfInBounds_toArray, List.set_cons_zero, List.set_cons_succ, List.getElem_toArray, List.getElem_cons_zero, List.getElem_cons_succ]
      refine wpAnyH_ready (rs := [3]) (by kernel_rfl) (by simp) ?_
      refine AllReadyH.cons rfl (fun K hK => ?_) AllReadyH.nil
      try simp only [Act.put, List.setIfInBounds_toArray, List.set_cons_zero, List.set_cons_succ, List.getElem_toArray, List.getElem_cons_zero, List.getElem_cons_succ]
      try simp only [Act.put, List.setIfInBounds_toArray, List.set_cons_zero, List.set_cons_succ]
      refine step_list (a := ⟨_, _⟩) (W := X2) (base := w5.heap.size) (v := z12) (u := .slice a ms.length c) (n := 0) (m := ms.length) (xs := []) (ys := cs) elemM (by rfl) _ _ (by rfl) (by rfl) (by rfl) O12 hLen (slice_src (hSrc.out.below bX2)) hOne.out ?_ ?_ bX2.size ?_
      · unfold maxLen; omega
      · omega
      intro v15 X3 O15 gY
      rw [Nat.zero_add, List.nil_append] at O15
      have bX3 := below_appended bX2 O12 gY (Nat.le_refl _) bX2.size
      replace S17 := S17.kept gY (fun e => NE g17 e.symm rfl)
      clear NE
      refine hK.out _ _ ⟨cell_step bX3 d0, cell_step bX3 d1, cell_step bX3 d2, cell_step bX3 d3, cell_step bX3 d4, cell_step bX3 d5⟩ (fun hHeld => ?_)
      clear hK K gY O12
      try simp only [Act.put, List.setIfInBounds_toArray, List.set_cons_zero, List.set_cons_succ]
      have F := Lib.hid (And.intro O15 (And.intro S17 bX3))
      clear O15 S17 hHeld bX3
      exact TAIL.out _ _ _ _ F
    refine AllReadyH.cons rfl (fun K hK => ?_) AllReadyH.nil
    try simp only [Act.put, List.setIfInBounds_toArray, List.set_cons_zero, List.set_cons_succ, List.getElem_toArray, List.getElem_cons_zero, List.getElem_cons_succ]
    have x1 := cell_step bX1 c1
    go_simp
    refine hK.out _ _ ⟨cell_step bX1 d0, cell_step bX1 d1, cell_step bX1 d2, cell_step bX1 d3, cell_step bX1 d4, cell_step bX1 d5⟩ (fun hHeld => ?_)
    clear hK K x1
    try simp only [Act.put, List.setIfInBounds_toArray, List.set_cons_zero, List.set_cons_succ, List.getElem_toArray, List.getElem_cons_zero, List.getElem_cons_succ]
    refine wpAnyH_ready (rs := [0]) (by kernel_rfl) (by simp) ?_
    refine AllReadyH.cons rfl (fun K hK => ?_) AllReadyH.nil
    try simp only [Act.put, List.setIfInBounds_toArray, List.set_cons_zero, List.set_cons_succ, List.getElem_toArray, List.getElem_cons_zero]
    go_simp
    have bX2 : Below w5.heap.size w5 (X1.alloc (.cells #[] 34)) := bX1.alloc bX1.size _
    have bXY : Below X1.heap.size X1 (X1.alloc (.cells #[] 34)) := (Below.refl _ _).alloc (Nat.le_refl _) _
    have O12 : (X1.alloc (.cells #[] 34)).ownsRow w5.heap.size 34 6 (.slice (some ⟨X1.heap.size, 0, none⟩) 0 0) 0 [] := World.ownsRow_made (base := w5.heap.size) (e := 34) (size := 6) X1 #[] 0 bX1.size (Nat.zero_le _) (by simp)
    have NE : ∀ k, (Value.slice (some ⟨X1.heap.size, 0, none⟩) 0 0).ownBlock = some k → k ≠ g17 := fun k e => by have := S17.lt; have e : X1.heap.size = k := Option.some.inj e; omega
    replace S17 := S17.later bXY
    refine hK.out _ _ ⟨cell_step bX2 d0, cell_step bX2 d1, cell_step bX2 d2, cell_step bX2 d3, cell_step bX2 d4, cell_step bX2 d5⟩ (fun hHeld => ?_)
    clear hK K bXY
    try simp only [Act.put, List.setIfInBounds_toArray, List.set_cons_zero, List.set_cons_succ, List.getElem_toArray, List.getElem_cons_zero, List.getElem_cons_succ]
    generalize X1.alloc (.cells #[] 34) = X2 at *
    generalize Value.slice (some ⟨X1.heap.size, 0, none⟩) 0 0 = z12 at *
    refine wpAnyH_ready (rs := [3]) (by kernel_rfl) (by simp) ?_
    refine AllReadyH.cons rfl (fun K hK => ?_) AllReadyH.nil
    try simp only [Act.put, List.setIfInBounds_toArray, List.set_cons_zero, List.set_cons_succ, List.getElem_toArray, List.getElem_cons_zero, List.getElem_cons_succ]
    try simp only [Act.put, List.setIfInBounds_toArray, List.set_cons_zero, List.set_cons_succ]
    refine step_list (a := ⟨_, _⟩) (W := X2) (base := w5.heap.size) (v := z12) (u := .slice a ms.length c) (n := 0) (m := ms.length) (xs := []) (ys := cs) elemM (by rfl) _ _ (by rfl) (by rfl) (by rfl) O12 hLen (slice_src (hSrc.out.below bX2)) hOne.out ?_ ?_ bX2.size ?_
    · unfold maxLen; omega
    · omega
    intro v15 X3 O15 gY
    rw [Nat.zero_add, List.nil_append] at O15
    have bX3 := below_appended bX2 O12 gY (Nat.le_refl _) bX2.size
    replace S17 := S17.kept gY (fun e => NE g17 e.symm rfl)
    clear NE
    refine hK.out _ _ ⟨cell_step bX3 d0, cell_step bX3 d1, cell_step bX3 d2, cell_step bX3 d3, cell_step bX3 d4, cell_step bX3 d5⟩ (fun hHeld => ?_)
    clear hK K gY O12
    try simp only [Act.put, List.setIfInBounds_toArray, List.set_cons_zero, List.set_cons_succ]
    have F := Lib.hid (And.intro O15 (And.intro S17 bX3))
    clear O15 S17 hHeld bX3
    exact TAIL.out _ _ _ _ F
  case tail =>
    intro z12 v15 X g17 F
    obtain ⟨O15, S17, bX⟩ := F.out
    clear F
    refine wpAnyH_ready (rs := [6]) (by kernel_rfl) (by simp) ?_
    refine AllReadyH.cons rfl (fun K hK => ?_) AllReadyH.nil
    try simp only [Act.put, List.setIfInBounds_toArray, List.set_cons_zero, List.set_cons_succ, List.getElem_toArray, List.getElem_cons_zero, List.getElem_cons_succ]
    try simp only [Act.put, List.setIfInBounds_toArray, List.set_cons_zero, List.set_cons_succ]
    refine step_list (a := ⟨_, _⟩) (W := X) (base := w5.heap.size) (v := v15) (u := .slice (some ⟨g17, 0, none⟩) 1 1) (n := ms.length) (m := 1) (xs := cs) (ys := [.int .i64 ta, .int .i64 tb, .int .i64 tc, .int .i64 td, .int .i64 te, .slice va zs.length vc]) elemM (by rfl) _ _ (by rfl) (by rfl) (by rfl) O15 rfl (.inr ⟨_, _, rfl, World.news_of_block S17⟩) ?_ ?_ ?_ bX.size ?_
    · simp [Value.oneCell']
    · unfold maxLen; omega
    · omega
    intro v18 Y O18 gY
    have bY := below_appended bX O15 gY (Nat.le_refl _) bX.size
    obtain ⟨a8, c8, rfl⟩ := own_value O18
    refine hK.out _ _ ⟨cell_step bY d0, cell_step bY d1, cell_step bY d2, cell_step bY d3, cell_step bY d4, cell_step bY d5⟩ (fun hHeld => ?_)
    clear hK K O15 S17 gY
    try simp only [Act.put, List.setIfInBounds_toArray, List.set_cons_zero, List.set_cons_succ]
    refine wpAnyH_take (i := 7) (v := ?v7) rfl (by kernel_rfl) (by kernel_rfl) (by kernel_rfl) (fun _ _ _ h => h) (Or.inl ⟨by rfl, ?hy7⟩) (by assumption) ?rest7
    case hy7 => (intro w hSw; (try dsimp only at hSw); go_simp; (first | done | with_reducible rfl))
    simp only [Act.put, List.setIfInBounds_toArray, List.set_cons_zero, List.set_cons_succ, List.getElem_toArray, List.getElem_cons_zero, List.getElem_cons_succ]
    refine wpAnyH_ready (rs := [8]) (by kernel_rfl) (by simp) ?_
    refine AllReadyH.cons rfl (fun K hK => ?_) AllReadyH.nil
    simp only [List.getElem_toArray, List.getElem_cons_zero, List.getElem_cons_succ]
    have x1 := cell_step bY c1
    have y1 := frozen_step bY c1 f1
    go_simp
    refine hK.out _ _ ⟨(World.cell?_setCell_other _ _ _ _ (by simp)).trans (cell_step bY d0), (World.cell?_setCell_other _ _ _ _ (by simp)).trans (cell_step bY d1), (World.cell?_setCell_other _ _ _ _ (by simp)).trans (cell_step bY d2), (World.cell?_setCell_other _ _ _ _ (by simp)).trans (cell_step bY d3), (World.cell?_setCell_other _ _ _ _ (by simp)).trans (cell_step bY d4), (World.cell?_setCell_other _ _ _ _ (by simp)).trans (cell_step bY d5)⟩ (fun hHeld => ?_)
    clear hK K hHeld x1 y1
    try simp only [Act.put, List.setIfInBounds_toArray, List.set_cons_zero, List.set_cons_succ, List.getElem_toArray, List.getElem_cons_zero, List.getElem_cons_succ]
    refine wpAnyH_done (by kernel_rfl) ?_ _
    have F1 : Four (Y.setCell ⟨w.heap.size, 1, none⟩ (.slice a8 (ms.length + 1) c8)) w.heap.size _ _ _ _ _ := (G1h.out.later bY).set1 _
    have F2 : Four (Y.setCell ⟨w.heap.size, 1, none⟩ (.slice a8 (ms.length + 1) c8)) (w.heap.size + 1 + 1) _ _ _ _ _ := (G2.out.later bY).kept (grown_set Y w.heap.size 1 _) (fun e => by have := Option.some.inj e; omega)
    have B9 : Below w.heap.size w (Y.setCell ⟨w.heap.size, 1, none⟩ (.slice a8 (ms.length + 1) c8)) := below_set (B5.out.trans (bY.mono B5.out.size)) (Nat.le_refl _)
    have SN : SentAt n₀ (w.heap.size + 3) (Y.setCell ⟨w.heap.size, 1, none⟩ (.slice a8 (ms.length + 1) c8)) (.slice a8 (ms.length + 1) c8) (ms ++ [⟨⟨ta, tb, tc, td, te⟩, zs⟩]) :=
      (SentAt.snoc hLen HCS.out HV.out (B9.mono h0) (row_set (b := w.heap.size) (o := 1) O18 (by omega) _)).base (show w.heap.size + 3 ≤ w5.heap.size by omega)
    clear O18 bX bX0 bY d0 d1 d2 d3 d4 d5 c1 f1 G1h G2 G3 hSrc hOne HCS hLen HV B5 hL hHeld
    generalize Y.setCell ⟨w.heap.size, 1, none⟩ (.slice a8 (ms.length + 1) c8) = W9 at *
    go_upto_region 4 with fail
    obtain ⟨n1, hn1⟩ : ∃ n1, n1 = ms.length + 1 - rcv := ⟨_, rfl⟩
    have HN1 := Lib.hid hn1
    have hE : ((ms.length + 1 : Nat) : Int) - rcv = (n1 : Int) := by omega
    rw [hE] at hL2
    have HSN := Lib.hid SN
    have HB9 := Lib.hid B9
    have hs9 := F2.lt
    obtain ⟨c0, c1, c2, c3⟩ := F1.cells
    have f3 := F1.frozen 3
    have HF1 := Lib.hid F1
    have HF2 := Lib.hid F2
    clear hn1 hE SN B9 F1 F2
    by_cases hh : (pk : Int) < (n1 : Int)
    · skip
      refine wp_region_held_drew (S := fun w' => True) (by kernel_rfl) trivial (fun hHeld => ?_)
      have bX : Below W9.heap.size W9 W9.drew := (Below.refl _ _).drew
      refine wpAnyH_take (i := 0) (v := ?v8) rfl (by kernel_rfl) (by kernel_rfl) (by kernel_rfl) (fun _ _ _ h => h) (Or.inl ⟨by rfl, ?hy8⟩) (by assumption) ?rest8
      case hy8 => (intro w hSw; (try dsimp only at hSw); go_simp; (first | done | with_reducible rfl))
      simp only [Act.put, List.setIfInBounds_toArray, List.set_cons_zero, List.set_cons_succ, List.getElem_toArray, List.getElem_cons_zero]
      refine (fun (TAIL4 : Hid (?G4 : Prop)) => ?main4) (Lib.hid ?tail4)
      case main4 =>
        refine wpAnyH_ready (rs := [1, 2]) (by kernel_rfl) (by simp) ?_
        refine AllReadyH.cons rfl (fun K hK => ?_) ?_
        · skip
          try simp only [Act.put, List.setIfInBounds_toArray, List.set_cons_zero, List.set_cons_succ, List.getElem_toArray, List.getElem_cons_zero, List.getElem_cons_succ]
          have x3 := cell_step bX c3
          go_simp
          refine hK.out _ _ trivial (fun hHeld => ?_)
          clear hK K x3 hHeld
          try simp only [Act.put, List.setIfInBounds_toArray, List.set_cons_zero, List.set_cons_succ, List.getElem_toArray, List.getElem_cons_zero, List.getElem_cons_succ]
          refine wpAnyH_ready (rs := [2]) (by kernel_rfl) (by simp) ?_
          refine AllReadyH.cons rfl (fun K hK => ?_) AllReadyH.nil
          try simp only [Act.put, List.setIfInBounds_toArray, List.set_cons_zero, List.set_cons_succ, List.getElem_toArray, List.getElem_cons_zero, List.getElem_cons_succ]
          have x0 := cell_step bX c0
          have x1 := cell_step bX c1
          have x2 := cell_step bX c2
          have x3 := cell_step bX c3
          go_simp
          refine hK.out _ _ trivial (fun hHeld => ?_)
          clear hK K x0 x1 x2 x3 hHeld
          try simp only [Act.put, List.setIfInBounds_toArray, List.set_cons_zero, List.set_cons_succ, List.getElem_toArray, List.getElem_cons_zero, List.getElem_cons_succ]
          refine wpAnyH_ready (rs := [3]) (by kernel_rfl) (by simp) ?_
          refine AllReadyH.cons rfl (fun K hK => ?_) AllReadyH.nil
          try simp only [Act.put, List.setIfInBounds_toArray, List.set_cons_zero, List.set_cons_succ, List.getElem_toArray, List.getElem_cons_zero, List.getElem_cons_succ]
          go_simp
          go_at_call 28
          refine (hL2.out _ _ _).mono ?_
          rintro e X' ⟨rfl, b'⟩
          replace bX := bX.trans (b'.mono bX.size)
          clear b'
          go_wp2_with fail
          refine hK.out _ _ trivial (fun hHeld => ?_)
          clear hK K hHeld
          try simp only [Act.put, List.setIfInBounds_toArray, List.set_cons_zero, List.set_cons_succ, List.getElem_toArray, List.getElem_cons_zero, List.getElem_cons_succ]
          have F := Lib.hid bX
          clear bX
          revert F
          generalize X' = X9
          revert X9
          exact TAIL4.out
        refine AllReadyH.cons rfl (fun K hK => ?_) AllReadyH.nil
        try simp only [Act.put, List.setIfInBounds_toArray, List.set_cons_zero, List.set_cons_succ, List.getElem_toArray, List.getElem_cons_zero, List.getElem_cons_succ]
        have x0 := cell_step bX c0
        have x1 := cell_step bX c1
        have x2 := cell_step bX c2
        have x3 := cell_step bX c3
        go_simp
        refine hK.out _ _ trivial (fun hHeld => ?_)
        clear hK K x0 x1 x2 x3 hHeld
        try simp only [Act.put, List.setIfInBounds_toArray, List.set_cons_zero, List.set_cons_succ, List.getElem_toArray, List.getElem_cons_zero, List.getElem_cons_succ]
        refine wpAnyH_ready (rs := [1, 3]) (by kernel_rfl) (by simp) ?_
        refine AllReadyH.cons rfl (fun K hK => ?_) ?_
        · skip
          try simp only [Act.put, List.setIfInBounds_toArray, List.set_cons_zero, List.set_cons_succ, List.getElem_toArray, List.getElem_cons_zero, List.getElem_cons_succ]
          have x3 := cell_step bX c3
          go_simp
          refine hK.out _ _ trivial (fun hHeld => ?_)
          clear hK K x3 hHeld
          try simp only [Act.put, List.setIfInBounds_toArray, List.set_cons_zero, List.set_cons_succ, List.getElem_toArray, List.getElem_cons_zero, List.getElem_cons_succ]
          refine wpAnyH_ready (rs := [3]) (by kernel_rfl) (by simp) ?_
          refine AllReadyH.cons rfl (fun K hK => ?_) AllReadyH.nil
          try simp only [Act.put, List.setIfInBounds_toArray, List.set_cons_zero, List.set_cons_succ, List.getElem_toArray, List.getElem_cons_zero, List.getElem_cons_succ]
          go_simp
          go_at_call 28
          refine (hL2.out _ _ _).mono ?_
          rintro e X' ⟨rfl, b'⟩
          replace bX := bX.trans (b'.mono bX.size)
          clear b'
          go_wp2_with fail
          refine hK.out _ _ trivial (fun hHeld => ?_)
          clear hK K hHeld
          try simp only [Act.put, List.setIfInBounds_toArray, List.set_cons_zero, List.set_cons_succ, List.getElem_toArray, List.getElem_cons_zero, List.getElem_cons_succ]
          have F := Lib.hid bX
          clear bX
          exact TAIL4.out _ F
        refine AllReadyH.cons rfl (fun K hK => ?_) AllReadyH.nil
        try simp only [Act.put, List.setIfInBounds_toArray, List.set_cons_zero, List.set_cons_succ, List.getElem_toArray, List.getElem_cons_zero, List.getElem_cons_succ]
        go_simp
        go_at_call 28
        refine (hL2.out _ _ _).mono ?_
        rintro e X' ⟨rfl, b'⟩
        replace bX := bX.trans (b'.mono bX.size)
        clear b'
        go_wp2_with fail
        refine hK.out _ _ trivial (fun hHeld => ?_)
        clear hK K hHeld
        try simp only [Act.put, List.setIfInBounds_toArray, List.set_cons_zero, List.set_cons_succ, List.getElem_toArray, List.getElem_cons_zero, List.getElem_cons_succ]
        refine wpAnyH_ready (rs := [1]) (by kernel_rfl) (by simp) ?_
        refine AllReadyH.cons rfl (fun K hK => ?_) AllReadyH.nil
        try simp only [Act.put, List.setIfInBounds_toArray, List.set_cons_zero, List.set_cons_succ, List.getElem_toArray, List.getElem_cons_zero, List.getElem_cons_succ]
        have x3 := cell_step bX c3
        go_simp
        refine hK.out _ _ trivial (fun hHeld => ?_)
        clear hK K x3 hHeld
        try simp only [Act.put, List.setIfInBounds_toArray, List.set_cons_zero, List.set_cons_succ, List.getElem_toArray, List.getElem_cons_zero, List.getElem_cons_succ]
        have F := Lib.hid bX
        clear bX
        exact TAIL4.out _ F
      case tail4 =>
        intro X F
        have bX := F.out
        clear F
        refine wpAnyH_take (i := 4) (v := ?v9) rfl (by kernel_rfl) (by kernel_rfl) (by kernel_rfl) (fun _ _ _ h => h) (Or.inl ⟨by rfl, ?hy9⟩) (by assumption) ?rest9
        case hy9 => (intro w hSw; (try dsimp only at hSw); go_simp; (first | done | with_reducible rfl))
        simp only [Act.put, List.setIfInBounds_toArray, List.set_cons_zero, List.set_cons_succ, List.getElem_toArray, List.getElem_cons_zero, List.getElem_cons_succ]
        refine wpAnyH_take (i := 5) (v := ?v10) rfl (by kernel_rfl) (by kernel_rfl) (by kernel_rfl) (fun _ _ _ h => h) (Or.inl ⟨by rfl, ?hy10⟩) (by assumption) ?rest10
        case hy10 => (intro w hSw; (try dsimp only at hSw); go_simp; (first | done | with_reducible rfl))
        simp only [Act.put, List.setIfInBounds_toArray, List.set_cons_zero, List.set_cons_succ, List.getElem_toArray, List.getElem_cons_zero, List.getElem_cons_succ]
        refine wpAnyH_ready (rs := [6]) (by kernel_rfl) (by simp) ?_
        refine AllReadyH.cons rfl (fun K hK => ?_) AllReadyH.nil
        simp only [List.getElem_toArray, List.getElem_cons_zero, List.getElem_cons_succ]
        have x3 := cell_step bX c3
        have y3 := frozen_step bX c3 f3
        go_simp
        refine hK.out _ _ trivial (fun hHeld => ?_)
        clear hK K hHeld x3 y3
        try simp only [Act.put, List.setIfInBounds_toArray, List.set_cons_zero, List.set_cons_succ, List.getElem_toArray, List.getElem_cons_zero, List.getElem_cons_succ]
        refine wpAnyH_done (by kernel_rfl) ?_ _
        have F1 : Four (X.setCell ⟨w.heap.size, 3, none⟩ (.int .i64 (n1 : Int))) w.heap.size _ _ _ _ _ := (HF1.out.later bX).set3 _
        have F2 : Four (X.setCell ⟨w.heap.size, 3, none⟩ (.int .i64 (n1 : Int))) (w.heap.size + 1 + 1) _ _ _ _ _ := (HF2.out.later bX).kept (grown_set X w.heap.size 3 _) (fun e => by have := Option.some.inj e; omega)
        have SN := Lib.hid (HSN.out.touch ((Touch.of_below (b := w.heap.size) (r := none) bX HB9.out.size).set (o := 3) (x := .int .i64 (n1 : Int)) HB9.out.size) h0 (by omega) (Classical.em _))
        have BZ := Lib.hid (below_set (o := 3) (x := .int .i64 (n1 : Int)) (HB9.out.trans (bX.mono HB9.out.size)) (Nat.le_refl _))
        clear bX HF1 HF2 HSN HB9 c0 c1 c2 c3 f3 hL2
        generalize X.setCell ⟨w.heap.size, 3, none⟩ (.int .i64 (n1 : Int)) = W10 at *
        obtain ⟨c0, c1, c2, c3⟩ := F1.cells
        obtain ⟨d0, d1, d2, d3⟩ := F2.cells
        have f0 := F2.frozen 0
        have f1 := F2.frozen 1
        have f2 := F2.frozen 2
        have f3 := F2.frozen 3
        go_wp2_with fail
        have SS := F2.store (.int .i64 cap) (.slice a8 (ms.length + 1) c8) (.int .i64 rcv) (.int .i64 (n1 : Int))
        have BB := (below_four W10 (w.heap.size + 1 + 1) (.int .i64 cap) (.slice a8 (ms.length + 1) c8) (.int .i64 rcv) (.int .i64 (n1 : Int))).mono (show w.heap.size ≤ w.heap.size + 1 + 1 by omega)
        have hb2 : w.heap.size + 1 + 1 ≤ W10.heap.size := Nat.le_of_lt F2.lt
        have ST := SN.out.touch (b := w.heap.size + 1 + 1) (r := none) ((((Touch.refl _ _ W10).set (o := 0) (x := .int .i64 cap) hb2).set (o := 1) (x := .slice a8 (ms.length + 1) c8) hb2).set (o := 2) (x := .int .i64 rcv) hb2 |>.set (o := 3) (x := .int .i64 (n1 : Int)) hb2) (by omega) (by omega) (Classical.em _)
        generalize (((W10.setCell ⟨w.heap.size + 1 + 1, 0, none⟩ (.int .i64 cap)).setCell ⟨w.heap.size + 1 + 1, 1, none⟩ (.slice a8 (ms.length + 1) c8)).setCell ⟨w.heap.size + 1 + 1, 2, none⟩ (.int .i64 rcv)).setCell ⟨w.heap.size + 1 + 1, 3, none⟩ (.int .i64 (n1 : Int)) = W11 at *
        obtain ⟨x0, x1, x2, x3⟩ := SS.cells
        refine bodyPost_ret (v := .tuple #[.agg #[.int .i64 cap, .slice a8 (ms.length + 1) c8, .int .i64 rcv, .int .i64 (n1 : Int)], .int .i64 0]) ?_ rfl ⟨_, by rw [show max pk (ms.length + 1 - rcv) = n1 by have := HN1.out; omega], ST.base (by omega), BZ.out.trans BB⟩
        clear BB SS BZ SN ST
        simp [results, Try.results11, x0, x1, x2, x3, go_sem]
    · skip
      refine wp_region_held_drew (S := fun w' => True) (by kernel_rfl) trivial (fun hHeld => ?_)
      have bX : Below W9.heap.size W9 W9.drew := (Below.refl _ _).drew
      refine wpAnyH_take (i := 0) (v := ?v11) rfl (by kernel_rfl) (by kernel_rfl) (by kernel_rfl) (fun _ _ _ h => h) (Or.inl ⟨by rfl, ?hy11⟩) (by assumption) ?rest11
      case hy11 => (intro w hSw; (try dsimp only at hSw); go_simp; (first | done | with_reducible rfl))
      simp only [Act.put, List.setIfInBounds_toArray, List.set_cons_zero, List.set_cons_succ, List.getElem_toArray, List.getElem_cons_zero]
      refine (fun (TAIL4 : Hid (?G4 : Prop)) => ?main4) (Lib.hid ?tail4)
      case main4 =>
        refine wpAnyH_ready (rs := [1, 2]) (by kernel_rfl) (by simp) ?_
        refine AllReadyH.cons rfl (fun K hK => ?_) ?_
        · skip
          try simp only [Act.put, List.setIfInBounds_toArray, List.set_cons_zero, List.set_cons_succ, List.getElem_toArray, List.getElem_cons_zero, List.getElem_cons_succ]
          have x3 := cell_step bX c3
          go_simp
          refine hK.out _ _ trivial (fun hHeld => ?_)
          clear hK K x3 hHeld
          try simp only [Act.put, List.setIfInBounds_toArray, List.set_cons_zero, List.set_cons_succ, List.getElem_toArray, List.getElem_cons_zero, List.getElem_cons_succ]
          refine wpAnyH_ready (rs := [2]) (by kernel_rfl) (by simp) ?_
          refine AllReadyH.cons rfl (fun K hK => ?_) AllReadyH.nil
          try simp only [Act.put, List.setIfInBounds_toArray, List.set_cons_zero, List.set_cons_succ, List.getElem_toArray, List.getElem_cons_zero, List.getElem_cons_succ]
          have x0 := cell_step bX c0
          have x1 := cell_step bX c1
          have x2 := cell_step bX c2
          have x3 := cell_step bX c3
          go_simp
          refine hK.out _ _ trivial (fun hHeld => ?_)
          clear hK K x0 x1 x2 x3 hHeld
          try simp only [Act.put, List.setIfInBounds_toArray, List.set_cons_zero, List.set_cons_succ, List.getElem_toArray, List.getElem_cons_zero, List.getElem_cons_succ]
          refine wpAnyH_ready (rs := [3]) (by kernel_rfl) (by simp) ?_
          refine AllReadyH.cons rfl (fun K hK => ?_) AllReadyH.nil
          try simp only [Act.put, List.setIfInBounds_toArray, List.set_cons_zero, List.set_cons_succ, List.getElem_toArray, List.getElem_cons_zero, List.getElem_cons_succ]
          go_simp
          go_at_call 28
          refine (hL2.out _ _ _).mono ?_
          rintro e X' ⟨rfl, b'⟩
          replace bX := bX.trans (b'.mono bX.size)
          clear b'
          go_wp2_with fail
          refine hK.out _ _ trivial (fun hHeld => ?_)
          clear hK K hHeld
          try simp only [Act.put, List.setIfInBounds_toArray, List.set_cons_zero, List.set_cons_succ, List.getElem_toArray, List.getElem_cons_zero, List.getElem_cons_succ]
          have F := Lib.hid bX
          clear bX
          revert F
          generalize X' = X9
          revert X9
          exact TAIL4.out
        refine AllReadyH.cons rfl (fun K hK => ?_) AllReadyH.nil
        try simp only [Act.put, List.setIfInBounds_toArray, List.set_cons_zero, List.set_cons_succ, List.getElem_toArray, List.getElem_cons_zero, List.getElem_cons_succ]
        have x0 := cell_step bX c0
        have x1 := cell_step bX c1
        have x2 := cell_step bX c2
        have x3 := cell_step bX c3
        go_simp
        refine hK.out _ _ trivial (fun hHeld => ?_)
        clear hK K x0 x1 x2 x3 hHeld
        try simp only [Act.put, List.setIfInBounds_toArray, List.set_cons_zero, List.set_cons_succ, List.getElem_toArray, List.getElem_cons_zero, List.getElem_cons_succ]
        refine wpAnyH_ready (rs := [1, 3]) (by kernel_rfl) (by simp) ?_
        refine AllReadyH.cons rfl (fun K hK => ?_) ?_
        · skip
          try simp only [Act.put, List.setIfInBounds_toArray, List.set_cons_zero, List.set_cons_succ, List.getElem_toArray, List.getElem_cons_zero, List.getElem_cons_succ]
          have x3 := cell_step bX c3
          go_simp
          refine hK.out _ _ trivial (fun hHeld => ?_)
          clear hK K x3 hHeld
          try simp only [Act.put, List.setIfInBounds_toArray, List.set_cons_zero, List.set_cons_succ, List.getElem_toArray, List.getElem_cons_zero, List.getElem_cons_succ]
          refine wpAnyH_ready (rs := [3]) (by kernel_rfl) (by simp) ?_
          refine AllReadyH.cons rfl (fun K hK => ?_) AllReadyH.nil
          try simp only [Act.put, List.setIfInBounds_toArray, List.set_cons_zero, List.set_cons_succ, List.getElem_toArray, List.getElem_cons_zero, List.getElem_cons_succ]
          go_simp
          go_at_call 28
          refine (hL2.out _ _ _).mono ?_
          rintro e X' ⟨rfl, b'⟩
          replace bX := bX.trans (b'.mono bX.size)
          clear b'
          go_wp2_with fail
          refine hK.out _ _ trivial (fun hHeld => ?_)
          clear hK K hHeld
          try simp only [Act.put, List.setIfInBounds_toArray, List.set_cons_zero, List.set_cons_succ, List.getElem_toArray, List.getElem_cons_zero, List.getElem_cons_succ]
          have F := Lib.hid bX
          clear bX
          exact TAIL4.out _ F
        refine AllReadyH.cons rfl (fun K hK => ?_) AllReadyH.nil
        try simp only [Act.put, List.setIfInBounds_toArray, List.set_cons_zero, List.set_cons_succ, List.getElem_toArray, List.getElem_cons_zero, List.getElem_cons_succ]
        go_simp
        go_at_call 28
        refine (hL2.out _ _ _).mono ?_
        rintro e X' ⟨rfl, b'⟩
        replace bX := bX.trans (b'.mono bX.size)
        clear b'
        go_wp2_with fail
        refine hK.out _ _ trivial (fun hHeld => ?_)
        clear hK K hHeld
        try simp only [Act.put, List.setIfInBounds_toArray, List.set_cons_zero, List.set_cons_succ, List.getElem_toArray, List.getElem_cons_zero, List.getElem_cons_succ]
        refine wpAnyH_ready (rs := [1]) (by kernel_rfl) (by simp) ?_
        refine AllReadyH.cons rfl (fun K hK => ?_) AllReadyH.nil
        try simp only [Act.put, List.setIfInBounds_toArray, List.set_cons_zero, List.set_cons_succ, List.getElem_toArray, List.getElem_cons_zero, List.getElem_cons_succ]
        have x3 := cell_step bX c3
        go_simp
        refine hK.out _ _ trivial (fun hHeld => ?_)
        clear hK K x3 hHeld
        try simp only [Act.put, List.setIfInBounds_toArray, List.set_cons_zero, List.set_cons_succ, List.getElem_toArray, List.getElem_cons_zero, List.getElem_cons_succ]
        have F := Lib.hid bX
        clear bX
        exact TAIL4.out _ F
      case tail4 =>
        intro X F
        have bX := F.out
        clear F
        refine wpAnyH_take (i := 4) (v := ?v12) rfl (by kernel_rfl) (by kernel_rfl) (by kernel_rfl) (fun _ _ _ h => h) (Or.inl ⟨by rfl, ?hy12⟩) (by assumption) ?rest12
        case hy12 => (intro w hSw; (try dsimp only at hSw); go_simp; (first | done | with_reducible rfl))
        simp only [Act.put, List.setIfInBounds_toArray, List.set_cons_zero, List.set_cons_succ, List.getElem_toArray, List.getElem_cons_zero, List.getElem_cons_succ]
        refine wpAnyH_take (i := 5) (v := ?v13) rfl (by kernel_rfl) (by kernel_rfl) (by kernel_rfl) (fun _ _ _ h => h) (Or.inl ⟨by rfl, ?hy13⟩) (by assumption) ?rest13
        case hy13 => (intro w hSw; (try dsimp only at hSw); go_simp; (first | done | with_reducible rfl))
        simp only [Act.put, List.setIfInBounds_toArray, List.set_cons_zero, List.set_cons_succ, List.getElem_toArray, List.getElem_cons_zero, List.getElem_cons_succ]
        refine wpAnyH_ready (rs := [6]) (by kernel_rfl) (by simp) ?_
        refine AllReadyH.cons rfl (fun K hK => ?_) AllReadyH.nil
        simp only [List.getElem_toArray, List.getElem_cons_zero, List.getElem_cons_succ]
        have x3 := cell_step bX c3
        have y3 := frozen_step bX c3 f3
        go_simp
        refine hK.out _ _ trivial (fun hHeld => ?_)
        clear hK K hHeld x3 y3
        try simp only [Act.put, List.setIfInBounds_toArray, List.set_cons_zero, List.set_cons_succ, List.getElem_toArray, List.getElem_cons_zero, List.getElem_cons_succ]
        refine wpAnyH_done (by kernel_rfl) ?_ _
        have F1 : Four (X.setCell ⟨w.heap.size, 3, none⟩ (.int .i64 (pk : Int))) w.heap.size _ _ _ _ _ := (HF1.out.later bX).set3 _
        have F2 : Four (X.setCell ⟨w.heap.size, 3, none⟩ (.int .i64 (pk : Int))) (w.heap.size + 1 + 1) _ _ _ _ _ := (HF2.out.later bX).kept (grown_set X w.heap.size 3 _) (fun e => by have := Option.some.inj e; omega)
        have SN := Lib.hid (HSN.out.touch ((Touch.of_below (b := w.heap.size) (r := none) bX HB9.out.size).set (o := 3) (x := .int .i64 (pk : Int)) HB9.out.size) h0 (by omega) (Classical.em _))
        have BZ := Lib.hid (below_set (o := 3) (x := .int .i64 (pk : Int)) (HB9.out.trans (bX.mono HB9.out.size)) (Nat.le_refl _))
        clear bX HF1 HF2 HSN HB9 c0 c1 c2 c3 f3 hL2
        generalize X.setCell ⟨w.heap.size, 3, none⟩ (.int .i64 (pk : Int)) = W10 at *
        obtain ⟨c0, c1, c2, c3⟩ := F1.cells
        obtain ⟨d0, d1, d2, d3⟩ := F2.cells
        have f0 := F2.frozen 0
        have f1 := F2.frozen 1
        have f2 := F2.frozen 2
        have f3 := F2.frozen 3
        go_wp2_with fail
        have SS := F2.store (.int .i64 cap) (.slice a8 (ms.length + 1) c8) (.int .i64 rcv) (.int .i64 (pk : Int))
        have BB := (below_four W10 (w.heap.size + 1 + 1) (.int .i64 cap) (.slice a8 (ms.length + 1) c8) (.int .i64 rcv) (.int .i64 (pk : Int))).mono (show w.heap.size ≤ w.heap.size + 1 + 1 by omega)
        have hb2 : w.heap.size + 1 + 1 ≤ W10.heap.size := Nat.le_of_lt F2.lt
        have ST := SN.out.touch (b := w.heap.size + 1 + 1) (r := none) ((((Touch.refl _ _ W10).set (o := 0) (x := .int .i64 cap) hb2).set (o := 1) (x := .slice a8 (ms.length + 1) c8) hb2).set (o := 2) (x := .int .i64 rcv) hb2 |>.set (o := 3) (x := .int .i64 (pk : Int)) hb2) (by omega) (by omega) (Classical.em _)
        generalize (((W10.setCell ⟨w.heap.size + 1 + 1, 0, none⟩ (.int .i64 cap)).setCell ⟨w.heap.size + 1 + 1, 1, none⟩ (.slice a8 (ms.length + 1) c8)).setCell ⟨w.heap.size + 1 + 1, 2, none⟩ (.int .i64 rcv)).setCell ⟨w.heap.size + 1 + 1, 3, none⟩ (.int .i64 (pk : Int)) = W11 at *
        obtain ⟨x0, x1, x2, x3⟩ := SS.cells
        refine bodyPost_ret (v := .tuple #[.agg #[.int .i64 cap, .slice a8 (ms.length + 1) c8, .int .i64 rcv, .int .i64 (pk : Int)], .int .i64 0]) ?_ rfl ⟨_, by rw [show max pk (ms.length + 1 - rcv) = pk by have := HN1.out; omega], ST.base (by omega), BZ.out.trans BB⟩
        clear BB SS BZ SN ST
        simp [results, Try.results11, x0, x1, x2, x3, go_sem]
end Go.Proofs.Ytgbgmmakiimbbaa
