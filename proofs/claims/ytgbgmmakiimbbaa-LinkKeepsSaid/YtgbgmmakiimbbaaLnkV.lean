/- Layer 18: what is changed afterwards changes no message. -/
import Derived.Test.YtgbgmmakiimbbaaLnkS
import Derived.Laws.AppendOwnNone
namespace Go.Proofs.Ytgbgmmakiimbbaa
open Go.RowKit
set_option linter.unusedVariables false
theorem List.set_map_eq (zs : List Int) (k : Nat) (x : Int) (q : IntKind) : (zs.map (Value.int q)).set k (.int q x) = (zs.set k x).map (Value.int q) := (List.map_set).symm
theorem ints_lt {q : IntKind} {w : World} {base N : Nat} {e : TypeId} {v : Value} {zs : List Int} (h : w.ownsRow base e 1 v zs.length (zs.map (Value.int q))) (hN : ∀ k, v.ownBlock = some k → k < N) : IntsAt q N w v zs := by
  obtain ⟨hl, ⟨e0, hn⟩ | ⟨b, off, cap, e0, hn, hb, hc⟩⟩ := SliceAt.of_owns h
  · exact ⟨hl, .inl ⟨e0, hn⟩⟩
  · exact ⟨hl, .inr ⟨b, off, cap, e0, hn, hN b (by rw [e0]; rfl), hc⟩⟩
theorem refClone_any (v : Value) (zs : List Int) (hm : zs.length * 8 ≤ 140737488351232) (n₀ : Nat) (w : World) (hL : IntsW .i64 n₀ w v zs) :
    Calls Try.prog 23 #[v] w (ClonedTo 2 1 zs.length (zs.map (Value.int .i64)) w) := by
  obtain ⟨i0, hi, hz0, hz1, hz2⟩ := elemV.hi
  have HO := Lib.hid (World.ownsRow_made (base := w.heap.size) (e := 2) (size := 1) w #[] 0 (Nat.le_refl _) (Nat.zero_le _) (by simp))
  rcases hL.src with ⟨rfl, rfl⟩ | ⟨ad, c, rfl, hc⟩
  · clear hL
    go_enter Try.func23, Try.ntmps23
    go_wp2_with (at_builtin; refine wpList_append_own_none rfl _ _ 32 rfl w.heap.size 2 i0 1 Try.underlying32 hi _ _ _ rfl HO.out rfl ?_)
    go_ret
    refine ⟨_, rfl, HO.out, ?_⟩
    exact (Below.refl w.heap.size w).alloc (Nat.le_refl _) _
  · clear hL
    have HC := Lib.hid hc
    clear hc
    go_enter Try.func23, Try.ntmps23
    go_wp2_with (at_builtin; refine wpList_append_own _ rfl _ _ 32 rfl w.heap.size 2 i0 (.int .i64 0) 1 8 Try.underlying32 hi hz0 hz1 hz2 rfl (by decide) _ _ _ rfl HO.out ad zs.length c (zs.map (Value.int .i64)) rfl ?c0 ?c1 ?c2 ?c3 ?c4 ?c5 ?_; (case c0 => simp); (case c1 => intro j u hj; exact cell_step ((Below.refl _ _).alloc (Nat.le_refl _) _) (HC.out j u hj)); (case c2 => intro u hu; simp only [List.mem_map] at hu; obtain ⟨z, _, rfl⟩ := hu; rfl); (case c3 => unfold maxLen; omega); (case c4 => omega); (case c5 => simp); intro v' w1 hown1 hgrow1 _; have hg1 := Lib.hid hgrow1; have ho1 := Lib.hid hown1; clear hgrow1 hown1)
    go_ret
    refine ⟨_, rfl, by simpa using ho1.out, ?_⟩
    exact ((Below.refl w.heap.size w).alloc (Nat.le_refl _) _).grown hg1.out (by simp) (fun k e => (HO.out.lt k e).1)
/-- a link is not touched by a change of a block between it and its messages -/
theorem LinkAt.far {b B cap rcv hi k : Nat} {q : List Ms} {w w' : World} (h : LinkAt b B cap q rcv hi w) (hg : w.grownBy w' (some k)) (hb : b < k) (hk : k < B) (hr : ringB b w ≠ some k) : LinkAt b B cap q rcv hi w' := by
  obtain ⟨hbB, hBw, first, R, rv, cs, h1, h2, h3, h4⟩ := h
  rw [ringB_of h1] at hr
  refine ⟨hbB, Nat.le_trans hBw hg.size, first, R, rv, cs, Six.kept h1 hg (fun e => by have := Option.some.inj e; omega), h2.kept hg (.inr hr), h3, fun i m hm => ?_⟩
  obtain ⟨v, hc, ho⟩ := h4 i m hm
  exact ⟨v, hc, ho.kept hg (.inr (fun e => by have := (ho.lt k e).1; omega))⟩
theorem LinkAt.farO {b B cap rcv hi : Nat} {row : Option Nat} {q : List Ms} {w w' : World} (h : LinkAt b B cap q rcv hi w) (hg : w.grownBy w' row) (hr : ∀ k, row = some k → b < k ∧ k < B ∧ ringB b w ≠ some k) : LinkAt b B cap q rcv hi w' := by
  cases row with
  | some k => exact h.far hg (hr k rfl).1 (hr k rfl).2.1 (hr k rfl).2.2
  | none => exact h.later ⟨hg.os, hg.tape, hg.output, hg.size, fun k hk => hg.block k hk (by simp)⟩
set_option maxRecDepth 8000 in
set_option maxHeartbeats 4000000 in
theorem walk_keeps (ta tb tc td te : Int) (v : Value) (zs : List Int) (w : World) (hv : IntsW .i64 w.heap.size w v zs) :
    Calls Try.prog 5 #[.agg #[.int .i64 ta, .int .i64 tb, .int .i64 tc, .int .i64 td, .int .i64 te, v]] w fun e w' => e = .returned (.bool true) ∧ Below w.heap.size w w' := by
  obtain ⟨va, vc, rfl⟩ := hv.value
  have bA := (Below.refl w.heap.size w).alloc (Nat.le_refl _) (.cells #[.int .i64 ta, .int .i64 tb, .int .i64 tc, .int .i64 td, .int .i64 te, .slice va zs.length vc] 34)
  have S0 := Six.new w 34 (.int .i64 ta) (.int .i64 tb) (.int .i64 tc) (.int .i64 td) (.int .i64 te) (.slice va zs.length vc)
  have HV := Lib.hid hv
  have B0 := Lib.hid bA
  clear hv bA
  by_cases h5 : zs.length ≤ 500
  · have g1 : decide ((500 : Int) < (zs.length : Int)) = false := by simp; omega
    have hm : zs.length * 8 ≤ 140737488351232 := by omega
    go_enter Try.func5, Try.ntmps5
    go_upto_region 1 with fail
    generalize w.alloc (.cells #[.int .i64 ta, .int .i64 tb, .int .i64 tc, .int .i64 td, .int .i64 te, .slice va zs.length vc] 34) = W0 at *
    obtain ⟨⟨s0, s1, s2⟩, s3, s4, s5⟩ := S0.cells
    have hW0 : w.heap.size < W0.heap.size := S0.lt
    go_wp2_with fail
    refine (new_any 2 W0 (by decide) (by decide)).mono ?_
    rintro e w1 ⟨rfl, hL, b1⟩
    have B1 := Lib.hid (B0.out.trans (b1.mono B0.out.size))
    replace s0 := cell_step b1 s0
    replace s1 := cell_step b1 s1
    replace s2 := cell_step b1 s2
    replace s3 := cell_step b1 s3
    replace s4 := cell_step b1 s4
    replace s5 := cell_step b1 s5
    replace S0 := S0.later b1
    have hlb : W0.heap.size < w1.heap.size := Six.lt hL
    have HL := Lib.hid hL
    clear hL b1 B0
    go_upto_region 6 with fail
    refine wp_region_held_drew (S := fun w' => w'.cell? ⟨w.heap.size, 0, none⟩ = some (.int .i64 ta) ∧ w'.cell? ⟨w.heap.size, 1, none⟩ = some (.int .i64 tb) ∧ w'.cell? ⟨w.heap.size, 2, none⟩ = some (.int .i64 tc) ∧ w'.cell? ⟨w.heap.size, 3, none⟩ = some (.int .i64 td) ∧ w'.cell? ⟨w.heap.size, 4, none⟩ = some (.int .i64 te) ∧ w'.cell? ⟨w.heap.size, 5, none⟩ = some (.slice va zs.length vc)) (by kernel_rfl) ?_ (fun hHeld => ?_)
    · exact ⟨s0, s1, s2, s3, s4, s5⟩
    refine wpAnyH_take (i := 0) (v := ?v1) rfl (by kernel_rfl) (by kernel_rfl) (by kernel_rfl) (fun _ _ _ h => h) (Or.inl ⟨by rfl, ?hy1⟩) (by assumption) ?rest1
    case hy1 => (intro w hSw; (try dsimp only at hSw); go_simp; (first | done | with_reducible rfl))
    simp only [Act.put, List.setIfInBounds_toArray, List.set_cons_zero, List.set_cons_succ, List.getElem_toArray, List.getElem_cons_zero]
    refine wpAnyH_take (i := 1) (v := ?v2) rfl (by kernel_rfl) (by kernel_rfl) (by kernel_rfl) (fun _ _ _ h => h) (Or.inl ⟨by rfl, ?hy2⟩) (by assumption) ?rest2
    case hy2 => (intro w hSw; (try dsimp only at hSw); go_simp; (first | done | with_reducible rfl))
    simp only [Act.put, List.setIfInBounds_toArray, List.set_cons_zero, List.set_cons_succ, List.getElem_toArray, List.getElem_cons_zero, List.getElem_cons_succ]
    refine wpAnyH_take (i := 2) (v := ?v3) rfl (by kernel_rfl) (by kernel_rfl) (by kernel_rfl) (fun _ _ _ h => h) (Or.inl ⟨by rfl, ?hy3⟩) (by assumption) ?rest3
    case hy3 => (intro w hSw; (try dsimp only at hSw); go_simp; (first | done | with_reducible rfl))
    simp only [Act.put, List.setIfInBounds_toArray, List.set_cons_zero, List.set_cons_succ, List.getElem_toArray, List.getElem_cons_zero, List.getElem_cons_succ]
    refine wpAnyH_take (i := 3) (v := ?v4) rfl (by kernel_rfl) (by kernel_rfl) (by kernel_rfl) (fun _ _ _ h => h) (Or.inl ⟨by rfl, ?hy4⟩) (by assumption) ?rest4
    case hy4 => (intro w hSw; (try dsimp only at hSw); go_simp; (first | done | with_reducible rfl))
    simp only [Act.put, List.setIfInBounds_toArray, List.set_cons_zero, List.set_cons_succ, List.getElem_toArray, List.getElem_cons_zero, List.getElem_cons_succ]
    have bX : Below w1.heap.size w1 w1.drew := (Below.refl _ _).drew
    have HVX := Lib.hid ((HV.out.below (B1.out.trans (bX.mono B1.out.size))).grow (Nat.le_trans B1.out.size bX.size))
    replace s0 := cell_step bX s0
    replace s1 := cell_step bX s1
    replace s2 := cell_step bX s2
    replace s3 := cell_step bX s3
    replace s4 := cell_step bX s4
    replace s5 := cell_step bX s5
    have HBX := Lib.hid bX
    clear bX
    generalize w1.drew = X at *
    refine (fun (TAIL : Hid (?G : Prop)) => ?main) (Lib.hid ?tail)
    case main =>
      refine wpAnyH_ready (rs := [4, 6]) (by kernel_rfl) (by simp) ?_
      refine AllReadyH.cons rfl (fun K hK => ?_) ?_
      · try simp only [Act.put, List.setIfInBounds_toArray, List.set_cons_zero, List.set_cons_succ, List.getElem_toArray, List.getElem_cons_zero, List.getElem_cons_succ]
        go_simp
        go_at_call 23
        refine (refClone_any (.slice va zs.length vc) zs hm X.heap.size X HVX.out).mono ?_
        rintro e X1 ⟨ov, rfl, oo, b2⟩
        obtain ⟨oa, oc, rfl⟩ := own_value oo
        go_wp2_with fail
        refine hK.out _ _ ⟨cell_step b2 s0, cell_step b2 s1, cell_step b2 s2, cell_step b2 s3, cell_step b2 s4, cell_step b2 s5⟩ (fun hHeld => ?_)
        clear hK K
        try simp only [Act.put, List.setIfInBounds_toArray, List.set_cons_zero, List.set_cons_succ, List.getElem_toArray, List.getElem_cons_zero, List.getElem_cons_succ]
        refine wpAnyH_take (i := 5) (v := ?v5) rfl (by kernel_rfl) (by kernel_rfl) (by kernel_rfl) (fun _ _ _ h => h) (Or.inl ⟨by rfl, ?hy5⟩) (by assumption) ?rest5
        case hy5 => (intro w hSw; (try dsimp only at hSw); go_simp; (first | done | with_reducible rfl))
        simp only [Act.put, List.setIfInBounds_toArray, List.set_cons_zero, List.set_cons_succ, List.getElem_toArray, List.getElem_cons_zero, List.getElem_cons_succ]
        refine wpAnyH_ready (rs := [6]) (by kernel_rfl) (by simp) ?_
        refine AllReadyH.cons rfl (fun K hK => ?_) AllReadyH.nil
        simp only [List.getElem_toArray, List.getElem_cons_zero, List.getElem_cons_succ]
        go_simp
        have b3 := b2.alloc b2.size (.cells #[.int .i64 0, .int .i64 0, .int .i64 0, .int .i64 0, .int .i64 0, .slice none 0 0] 34)
        have F := Lib.hid (And.intro (own_below oo ((Below.refl _ _).alloc (Nat.le_refl _) (.cells #[.int .i64 0, .int .i64 0, .int .i64 0, .int .i64 0, .int .i64 0, .slice none 0 0] 34))) (And.intro (Six.new X1 34 (.int .i64 0) (.int .i64 0) (.int .i64 0) (.int .i64 0) (.int .i64 0) (.slice none 0 0)) (And.intro b2.size b3)))
        refine hK.out _ _ ⟨cell_step b3 s0, cell_step b3 s1, cell_step b3 s2, cell_step b3 s3, cell_step b3 s4, cell_step b3 s5⟩ (fun hHeld => ?_)
        clear hK K oo b2 b3
        try simp only [Act.put, List.setIfInBounds_toArray, List.set_cons_zero, List.set_cons_succ, List.getElem_toArray, List.getElem_cons_zero, List.getElem_cons_succ]
        clear hHeld
        generalize X1.alloc (.cells #[.int .i64 0, .int .i64 0, .int .i64 0, .int .i64 0, .int .i64 0, .slice none 0 0] 34) = X2 at *
        obtain ⟨gB, hgB⟩ : ∃ g, g = X1.heap.size := ⟨_, rfl⟩
        rw [← hgB] at F ⊢
        clear hgB
        revert F
        revert X2 gB oa oc
        exact TAIL.out
      · refine AllReadyH.cons rfl (fun K hK => ?_) AllReadyH.nil
        try simp only [Act.put, List.setIfInBounds_toArray, List.set_cons_zero, List.set_cons_succ, List.getElem_toArray, List.getElem_cons_zero, List.getElem_cons_succ]
        go_simp
        have b2 := (Below.refl X.heap.size X).alloc (Nat.le_refl _) (.cells #[.int .i64 0, .int .i64 0, .int .i64 0, .int .i64 0, .int .i64 0, .slice none 0 0] 34)
        have S2 := Six.new X 34 (.int .i64 0) (.int .i64 0) (.int .i64 0) (.int .i64 0) (.int .i64 0) (.slice none 0 0)
        refine hK.out _ _ ⟨cell_step b2 s0, cell_step b2 s1, cell_step b2 s2, cell_step b2 s3, cell_step b2 s4, cell_step b2 s5⟩ (fun hHeld => ?_)
        clear hK K
        try simp only [Act.put, List.setIfInBounds_toArray, List.set_cons_zero, List.set_cons_succ, List.getElem_toArray, List.getElem_cons_zero, List.getElem_cons_succ]
        generalize X.alloc (.cells #[.int .i64 0, .int .i64 0, .int .i64 0, .int .i64 0, .int .i64 0, .slice none 0 0] 34) = X1 at *
        refine wpAnyH_ready (rs := [4]) (by kernel_rfl) (by simp) ?_
        refine AllReadyH.cons rfl (fun K hK => ?_) AllReadyH.nil
        simp only [List.getElem_toArray, List.getElem_cons_zero, List.getElem_cons_succ]
        go_simp
        go_at_call 23
        refine (refClone_any (.slice va zs.length vc) zs hm X1.heap.size X1 ((HVX.out.below b2).grow b2.size)).mono ?_
        rintro e X2 ⟨ov, rfl, oo, b3⟩
        obtain ⟨oa, oc, rfl⟩ := own_value oo
        have b4 := b2.trans (b3.mono b2.size)
        go_wp2_with fail
        have F := Lib.hid (And.intro (own_base oo b2.size) (And.intro (S2.later b3) (And.intro (Nat.le_refl X.heap.size) b4)))
        refine hK.out _ _ ⟨cell_step b4 s0, cell_step b4 s1, cell_step b4 s2, cell_step b4 s3, cell_step b4 s4, cell_step b4 s5⟩ (fun hHeld => ?_)
        clear hK K
        try simp only [Act.put, List.setIfInBounds_toArray, List.set_cons_zero, List.set_cons_succ, List.getElem_toArray, List.getElem_cons_zero, List.getElem_cons_succ]
        refine wpAnyH_take (i := 5) (v := ?v6) rfl (by kernel_rfl) (by kernel_rfl) (by kernel_rfl) (fun _ _ _ h => h) (Or.inl ⟨by rfl, ?hy6⟩) (by assumption) ?rest6
        case hy6 => (intro w hSw; (try dsimp only at hSw); go_simp; (first | done | with_reducible rfl))
        simp only [Act.put, List.setIfInBounds_toArray, List.set_cons_zero, List.set_cons_succ, List.getElem_toArray, List.getElem_cons_zero, List.getElem_cons_succ]
        exact TAIL.out _ _ _ _ F
    case tail =>
      intro oa oc X2 gB F
      obtain ⟨O2, SZ, hgB, b2⟩ := F.out
      have hX1 := HBX.out.size
      clear F HVX
      obtain ⟨⟨p0, p1, p2⟩, p3, p4, p5⟩ := SZ.cells
      have f0 := SZ.frozen 0
      have f1 := SZ.frozen 1
      have f2 := SZ.frozen 2
      have f3 := SZ.frozen 3
      have f4 := SZ.frozen 4
      have f5 := SZ.frozen 5
      have hl2 : w.heap.size < X2.heap.size := Nat.lt_of_lt_of_le (by omega) b2.size
      have GZ := grown_six X2 gB (.int .i64 ta) (.int .i64 tb) (.int .i64 tc) (.int .i64 td) (.int .i64 te) (.slice oa zs.length oc)
      refine wpAnyH_ready (rs := [7]) (by kernel_rfl) (by simp) ?_
      refine AllReadyH.cons rfl (fun K hK => ?_) AllReadyH.nil
      simp only [List.getElem_toArray, List.getElem_cons_zero, List.getElem_cons_succ]
      go_simp
      refine hK.out _ _ ⟨(grown_cell GZ hl2 (by omega)).trans (cell_step b2 s0), (grown_cell GZ hl2 (by omega)).trans (cell_step b2 s1), (grown_cell GZ hl2 (by omega)).trans (cell_step b2 s2), (grown_cell GZ hl2 (by omega)).trans (cell_step b2 s3), (grown_cell GZ hl2 (by omega)).trans (cell_step b2 s4), (grown_cell GZ hl2 (by omega)).trans (cell_step b2 s5)⟩ (fun hHeld => ?_)
      clear hK K p0 p1 p2 p3 p4 p5 f0 f1 f2 f3 f4 f5 s0 s1 s2 s3 s4 s5
      try simp only [Act.put, List.setIfInBounds_toArray, List.set_cons_zero, List.set_cons_succ, List.getElem_toArray, List.getElem_cons_zero, List.getElem_cons_succ]
      refine wpAnyH_done (by kernel_rfl) ?_ _
      have L2 := HL.out.later (HBX.out.trans (b2.mono hX1))
      have L3 := Six.kept L2 GZ (fun e => by have := Option.some.inj e; omega)
      have SS := SZ.store (.int .i64 ta) (.int .i64 tb) (.int .i64 tc) (.int .i64 td) (.int .i64 te) (.slice oa zs.length oc)
      have S3 := (S0.later (HBX.out.trans (b2.mono hX1))).kept GZ (fun e => by have := Option.some.inj e; omega)
      have O3 := O2.kept GZ (SZ.not_row O2 (by decide))
      have B3 := Lib.hid ((B1.out.trans ((HBX.out.trans (b2.mono hX1)).mono B1.out.size)).trans ((below_six X2 gB (.int .i64 ta) (.int .i64 tb) (.int .i64 tc) (.int .i64 td) (.int .i64 te) (.slice oa zs.length oc)).mono (by omega)))
      have hs3 : (((((((X2.setCell ⟨gB, 0, none⟩ (.int .i64 ta)).setCell ⟨gB, 1, none⟩ (.int .i64 tb)).setCell ⟨gB, 2, none⟩ (.int .i64 tc)).setCell ⟨gB, 3, none⟩ (.int .i64 td)).setCell ⟨gB, 4, none⟩ (.int .i64 te)).setCell ⟨gB, 5, none⟩ (.slice oa zs.length oc))).heap.size = X2.heap.size := by simp
      have hoX : ∀ k, (Value.slice oa zs.length oc).ownBlock = some k → X.heap.size ≤ k ∧ k < X2.heap.size := fun k e => O2.lt k e
      clear hHeld L2 O2 SZ b2 GZ HBX S0 HL B1
      generalize ((((((X2.setCell ⟨gB, 0, none⟩ (.int .i64 ta)).setCell ⟨gB, 1, none⟩ (.int .i64 tb)).setCell ⟨gB, 2, none⟩ (.int .i64 tc)).setCell ⟨gB, 3, none⟩ (.int .i64 td)).setCell ⟨gB, 4, none⟩ (.int .i64 te)).setCell ⟨gB, 5, none⟩ (.slice oa zs.length oc)) = X3 at *
      have hlt3 : W0.heap.size < X3.heap.size := Six.lt L3
      have R3 : ringB W0.heap.size X3 = none := ringB_of L3
      have L : LinkAt W0.heap.size X3.heap.size 2 [] 0 0 X3 := LinkAt.new hlt3 (Nat.le_refl _) L3
      have hvv : ∀ W', X3.grownBy W' (some W0.heap.size) → IntsW .i64 X3.heap.size W' (.slice oa zs.length oc) zs := fun W' g => .inr (ints_lt (O3.kept g (.inr (fun e => by have := (hoX _ e).1; omega))) (fun k e => by have := (hoX _ e).2; omega))
      have k1 : LinkOk 2 [] 0 0 := ⟨by decide, by decide, by decide, fun m hm => by cases hm⟩
      have k2 : LinkOk 2 [⟨⟨ta, tb, tc, td, te⟩, zs⟩] 0 1 := ⟨by decide, by decide, by decide, fun m' hm' => by simp at hm'; subst hm'; exact hm⟩
      obtain ⟨⟨p0, p1, p2⟩, p3, p4, p5⟩ := SS.cells
      clear L3
      have HO3 := Lib.hid O3
      have HS3 := Lib.hid S3
      have HSS := Lib.hid SS
      clear O3 S3 SS
      go_wp2_with fail
      refine (send_ok W0.heap.size 2 0 0 [] ⟨ta, tb, tc, td, te⟩ (.slice oa zs.length oc) zs hm X3 hvv L k1 (by decide)).mono ?_
      rintro e w4 ⟨rfl, l4, t4, r4⟩
      rw [R3] at t4 r4
      clear p0 p1 p2 p3 p4 p5 hvv L k1
      have S4 := Lib.hid (HS3.out.held t4.1 (by omega))
      have SS4 := Lib.hid (show Six w4 gB _ _ _ _ _ _ _ from (t4.2 gB HSS.out.lt (by omega) (by simp)).trans HSS.out)
      have O4 := Lib.hid (t4.row HO3.out (fun e => by have := (hoX _ e).1; omega) (Classical.em _))
      have B4 := Lib.hid (B3.out.trans (t4.1.mono (by omega)))
      have L4 := Lib.hid (show LinkAt W0.heap.size X3.heap.size 2 [⟨⟨ta, tb, tc, td, te⟩, zs⟩] 0 1 w4 from l4)
      have hr4 : ∀ k, ringB W0.heap.size w4 = some k → X3.heap.size ≤ k := fun k hk => by
        rcases r4 with r4 | ⟨k', r4, hle⟩
        · rw [r4] at hk; cases hk
        · rw [r4] at hk; cases hk; exact hle
      have hneB := SS4.out.not_row O4.out (by decide)
      clear l4 t4 r4 R3 HO3 HS3 HSS B3
      obtain ⟨⟨p0, p1, p2⟩, p3, p4, p5⟩ := SS4.out.cells
      go_wp2_with fail
      clear p0 p1 p2 p3 p4 p5
      go_loopw [5, 31] (fun _ i wr => ∃ (j : Nat) (ys : List Int), j ≤ zs.length ∧ i = .int .i64 j ∧ ys.length = zs.length ∧ wr.ownsRow X.heap.size 2 1 (.slice oa zs.length oc) zs.length (ys.map (Value.int .i64)) ∧ w4.grownBy wr (Value.slice oa zs.length oc).ownBlock) (fun _ i _ => zs.length - (intOf i).toNat)
      case atStart => exact ⟨0, zs, Nat.zero_le _, rfl, rfl, O4.out, World.grownBy.refl _ _⟩
      case round =>
        clear O4
        obtain ⟨j, ys, hj, rfl, hys, hO, hG⟩ := hrel
        by_cases hlt : j < zs.length
        · have hdec : decide ((j : Int) < (zs.length : Int)) = true := by simp; omega
          have wj : IntKind.i64.wrap ((j : Int) + 1) = j + 1 := IntWalk.i64_in _ (by omega)
          obtain ⟨go, oc', e0, hgo1, hgo2⟩ := own_some hO (by omega)
          cases e0
          have SSr := SS4.out.kept hG (fun e => hneB.elim (fun h => by cases h) (fun h => h e.symm))
          obtain ⟨⟨p0, p1, p2⟩, p3, p4, p5⟩ := SSr.cells
          have hx : (ys.map (Value.int .i64))[j]? = some (.int .i64 (ys[j]'(by omega))) := by rw [List.getElem?_map, List.getElem?_eq_getElem (by omega)]; rfl
          have hc := (hO.cellAt j (by omega)).trans hx
          have hf := hO.frozenAt j
          have i0 : (0 : Int) ≤ (j : Int) := by omega
          have i1 : (j : Int) < (zs.length : Int) := by omega
          generalize ys[j]'(by omega) = y at *
          have hst := hO.stored j (.int .i64 (wrap64 (y + 1)))
          rw [List.set_map_eq] at hst
          have HST := Lib.hid hst
          have HG := Lib.hid hG
          clear hst hG hO SSr hx
          go_wp2_with fail
          go_roundw
          case rel => exact ⟨j + 1, _, by omega, by go_num, by rw [List.length_set]; exact hys, HST.out.1, grown_trans HG.out HST.out.2⟩
          case measure => simp [intOf]; omega
        · have hje : j = zs.length := by omega
          subst hje
          have hdec : decide ((zs.length : Int) < (zs.length : Int)) = false := by simp
          have L5 := Lib.hid (L4.out.farO hG (fun k e => ⟨by have := (hoX k e).1; omega, by have := (hoX k e).2; omega, fun e' => by have := hr4 k e'; have := (hoX k e).2; omega⟩))
          have S5 := Lib.hid (S4.out.kept hG (fun e => by have := (hoX _ e.symm).1; omega))
          have B5 := Lib.hid (B4.out.grown hG (Nat.le_trans (by omega) (Nat.le_of_lt S4.out.lt)) (fun k e => by have := (hoX k e).1; omega))
          have hgo5 : w4.heap.size ≤ wr.heap.size := hG.size
          clear L4 S4 B4 SS4 hr4 hneB hO hG
          generalize wr = wo at *
          go_wp2_with fail
          refine (messages_any W0.heap.size 2 0 1 [⟨⟨ta, tb, tc, td, te⟩, zs⟩] wo L5.out k2).mono ?_
          rintro e w6 ⟨mv, rfl, ⟨cs, hro, hms⟩, b6⟩
          obtain ⟨gm, mc, rfl, hgm1, hgm2⟩ := own_some hro (show 0 < 1 by decide)
          have hM := Lib.hid (And.intro hro hms)
          have B6 := Lib.hid b6
          clear hro hms b6
          go_wp2_with fail
          go_loopw [7, 8, 45] (fun _ _ i w7 => ∃ (j : Nat), j ≤ 1 ∧ i = .int .i64 j ∧ Below wo.heap.size wo w7 ∧ (j = 0 → w7.ownsRow wo.heap.size 34 6 (.slice (some ⟨gm, 0, none⟩) 1 mc) 1 cs ∧ MsgAt w7 wo.heap.size cs 0 ⟨⟨ta, tb, tc, td, te⟩, zs⟩)) (fun _ _ i _ => 1 - (intOf i).toNat)
          case atStart => exact ⟨0, by omega, rfl, B6.out, fun _ => ⟨hM.out.1, hM.out.2 0 _ rfl⟩⟩
          case round =>
            generalize wr = w7 at *
            clear hM B6
            obtain ⟨j, hj, rfl, hB, hq⟩ := hrel
            rcases (show j = 0 ∨ j = 1 by omega) with rfl | rfl
            · obtain ⟨hro, v, ⟨m0, m1, m2, m3, m4, m5⟩, hv⟩ := hq rfl
              dsimp only at m0 m1 m2 m3 m4 m5 hv
              have hcl : cs.length = 1 * 6 := hro.1
              have x0 := (hro.cellAt (0 * 6) (by omega)).trans m0
              have x1 := (hro.cellAt (0 * 6 + 1) (by omega)).trans m1
              have x2 := (hro.cellAt (0 * 6 + 2) (by omega)).trans m2
              have x3 := (hro.cellAt (0 * 6 + 3) (by omega)).trans m3
              have x4 := (hro.cellAt (0 * 6 + 4) (by omega)).trans m4
              have x5 := (hro.cellAt (0 * 6 + 5) (by omega)).trans m5
              simp only [Nat.zero_mul, Nat.zero_add] at x0 x1 x2 x3 x4 x5
              obtain ⟨ra, rc, rfl⟩ := own_value hv
              have c8 := (Below.refl w7.heap.size w7).alloc (Nat.le_refl _) (.cells #[.int .i64 ta, .int .i64 tb, .int .i64 tc, .int .i64 td, .int .i64 te, .slice ra zs.length rc] 34)
              have S8 := Six.new w7 34 (.int .i64 ta) (.int .i64 tb) (.int .i64 tc) (.int .i64 td) (.int .i64 te) (.slice ra zs.length rc)
              have V8 := Lib.hid (own_below hv c8)
              have hne8 := S8.not_row V8.out (by decide)
              have hrl := hv.lt
              have B8 := Lib.hid (hB.trans (c8.mono hB.size))
              have hwr : wo.heap.size ≤ w7.heap.size := hB.size
              clear hro hv hB hq m0 m1 m2 m3 m4 m5 c8
              go_upto_region 16 with fail
              generalize w7.alloc (.cells #[.int .i64 ta, .int .i64 tb, .int .i64 tc, .int .i64 td, .int .i64 te, .slice ra zs.length rc] 34) = w8 at *
              clear x0 x1 x2 x3 x4 x5
              generalize w7.heap.size = bx at *
              have HS8 := Lib.hid S8
              obtain ⟨⟨p0, p1, p2⟩, p3, p4, p5⟩ := S8.cells
              clear S8
              go_wp2_with fail
              clear p0 p1 p2 p3 p4 p5
              go_loopw [8, 52] (fun _ i w9 => ∃ (j : Nat) (ys : List Int), j ≤ zs.length ∧ i = .int .i64 j ∧ ys.length = zs.length ∧ w9.ownsRow wo.heap.size 2 1 (.slice ra zs.length rc) zs.length (ys.map (Value.int .i64)) ∧ w8.grownBy w9 (Value.slice ra zs.length rc).ownBlock) (fun _ i _ => zs.length - (intOf i).toNat)
              case atStart => exact ⟨0, zs, Nat.zero_le _, rfl, rfl, V8.out, World.grownBy.refl _ _⟩
              case round =>
                generalize wr = w9 at *
                clear V8
                obtain ⟨j, ys, hj, rfl, hys, hO, hG⟩ := hrel
                by_cases hlt : j < zs.length
                · have hdec : decide ((j : Int) < (zs.length : Int)) = true := by simp; omega
                  have wj : IntKind.i64.wrap ((j : Int) + 1) = j + 1 := IntWalk.i64_in _ (by omega)
                  obtain ⟨go, oc', e0, hgo1, hgo2⟩ := own_some hO (by omega)
                  cases e0
                  have SSr := HS8.out.kept hG (fun e => hne8.elim (fun h => by cases h) (fun h => h e.symm))
                  obtain ⟨⟨p0, p1, p2⟩, p3, p4, p5⟩ := SSr.cells
                  have hx : (ys.map (Value.int .i64))[j]? = some (.int .i64 (ys[j]'(by omega))) := by rw [List.getElem?_map, List.getElem?_eq_getElem (by omega)]; rfl
                  have hc := (hO.cellAt j (by omega)).trans hx
                  have hf := hO.frozenAt j
                  have i0 : (0 : Int) ≤ (j : Int) := by omega
                  have i1 : (j : Int) < (zs.length : Int) := by omega
                  generalize ys[j]'(by omega) = y at *
                  have hst := hO.stored j (.int .i64 (wrap64 (y - 1)))
                  rw [List.set_map_eq] at hst
                  have HST := Lib.hid hst
                  have HG := Lib.hid hG
                  clear hst hG hO SSr hx
                  go_wp2_with fail
                  go_roundw
                  case rel => exact ⟨j + 1, _, by omega, by go_num, by rw [List.length_set]; exact hys, HST.out.1, grown_trans HG.out HST.out.2⟩
                  case measure => simp [intOf]; omega
                · have hje : j = zs.length := by omega
                  subst hje
                  have hdec : decide ((zs.length : Int) < (zs.length : Int)) = false := by simp
                  have B9 := Lib.hid (B8.out.grown hG B8.out.size (fun k e => (hrl k e).1))
                  clear hO hG B8 HS8 hne8
                  go_wp2_with fail
                  go_roundw
                  case rel => exact ⟨1, by omega, by go_num, B9.out, fun h => by cases h⟩
                  case measure => simp [intOf]
            · have L7 := L5.out.later hB
              have S7 := S5.out.later hB
              have B7 := Lib.hid (B5.out.trans (hB.mono B5.out.size))
              obtain ⟨⟨p0, p1, p2⟩, p3, p4, p5⟩ := S7.cells
              have HL7 := Lib.hid L7
              have HS7 := Lib.hid S7
              clear L5 S5 B5 hB hq L7 S7
              go_wp2_with fail
              clear p0 p1 p2 p3 p4 p5
              refine (recv_ok W0.heap.size 2 0 1 ⟨⟨ta, tb, tc, td, te⟩, zs⟩ [] w7 HL7.out k2).mono ?_
              rintro e w8 ⟨rv8, rfl, o8, l8, t8, r8⟩
              obtain ⟨ra, rc, rfl⟩ := own_value o8
              unfold encM
              dsimp only at o8 ⊢
              have S8 := HS7.out.held t8.1 (by omega)
              have B8 := Lib.hid (B7.out.trans (t8.1.mono (by omega)))
              clear HL7 HS7 B7 l8 t8 r8
              have c9 := (Below.refl w8.heap.size w8).alloc (Nat.le_refl _) (.cells #[.int .i64 ta, .int .i64 tb, .int .i64 tc, .int .i64 td, .int .i64 te, .slice ra zs.length rc] 34)
              have S9 := Six.new w8 34 (.int .i64 ta) (.int .i64 tb) (.int .i64 tc) (.int .i64 td) (.int .i64 te) (.slice ra zs.length rc)
              replace S8 := S8.later c9
              have O9 := own_below o8 c9
              have B9 := Lib.hid (B8.out.trans (c9.mono B8.out.size))
              clear c9 o8 B8
              go_upto_region 23 with fail
              generalize w8.alloc (.cells #[.int .i64 ta, .int .i64 tb, .int .i64 tc, .int .i64 td, .int .i64 te, .slice ra zs.length rc] 34) = w9 at *
              go_wp2_with fail
              refine (alive18_any w9).mono ?_
              rintro e w10 ⟨rfl, b10⟩
              replace S8 := S8.later b10
              replace S9 := S9.later b10
              have O10 := own_below O9 b10
              have B10 := Lib.hid (B9.out.trans (b10.mono B9.out.size))
              clear O9 B9 b10
              obtain ⟨⟨p0, p1, p2⟩, p3, p4, p5⟩ := S8.cells
              obtain ⟨⟨q0, q1, q2⟩, q3, q4, q5⟩ := S9.cells
              have HSM := Lib.hid (refSameM_any ⟨ta, tb, tc, td, te⟩ ⟨ta, tb, tc, td, te⟩ (.slice ra zs.length rc) (.slice va zs.length vc) zs zs hm hm w10 (.inr (ints_own O10)) ((HV.out.below B10.out).grow B10.out.size))
              rw [sameM_refl] at HSM
              clear S8 S9 O10
              go_wp2_with fail
              refine HSM.out.mono ?_
              rintro e w11 ⟨rfl, b11⟩
              have B11 := Lib.hid (B10.out.trans (b11.mono B10.out.size))
              clear b11 B10 HSM p0 p1 p2 p3 p4 p5 q0 q1 q2 q3 q4 q5
              go_wp2_with fail
              go_ret
              exact ⟨rfl, B11.out⟩
  · have g1 : decide ((500 : Int) < (zs.length : Int)) = true := by simp; omega
    go_enter Try.func5, Try.ntmps5
    go_upto_region 1 with fail
    generalize w.alloc (.cells #[.int .i64 ta, .int .i64 tb, .int .i64 tc, .int .i64 td, .int .i64 te, .slice va zs.length vc] 34) = W0 at *
    obtain ⟨⟨s0, s1, s2⟩, s3, s4, s5⟩ := S0.cells
    clear S0
    go_wp2_with fail
    refine (alive18_any W0).mono ?_
    rintro e w1 ⟨rfl, b1⟩
    have B1 := Lib.hid (B0.out.trans (b1.mono B0.out.size))
    clear b1 B0 s0 s1 s2 s3 s4 s5
    go_wp2_with fail
    go_ret
    exact ⟨rfl, B1.out⟩
end Go.Proofs.Ytgbgmmakiimbbaa
