/- The reference's Run. -/
import Derived.Test.YtmffgbmjomaehaaSgdJ
namespace Go.Proofs.Ytmffgbmjomaehaa
open Go.RowKit
set_option linter.unusedVariables false
set_option maxHeartbeats 8000000 in
theorem refRun_any (rate mom q : Int) (hr : Word rate) (ho : Word mom) (p m v : Value) (zp zm : List Int) (gs : List (List Int)) (hF : Fine (zp, zm)) (hl : gs.length * 48 ≤ 140737488351232) (hg : ∀ g ∈ gs, g.length * 8 ≤ 140737488351232) (w : World) (ip : IntsW .i64 w.heap.size w p zp) (im : IntsW .i64 w.heap.size w m zm) (hv : RowsAt .i64 w.heap.size w v gs) :
    Calls Try.prog 24 #[.agg #[.int .i64 rate, .int .i64 mom, .int .i64 q], .agg #[p, m], v] w (RunIs 26 (runB rate mom q (zp, zm) gs) (runR rate mom q (zp, zm) gs) w) := by
  have BA := (Below.refl w.heap.size w).alloc (Nat.le_refl _) (.cells #[.int .i64 rate, .int .i64 mom, .int .i64 q] 23)
  have r012 := cells_three w (.int .i64 rate) (.int .i64 mom) (.int .i64 q) 23
  have hzA : (w.alloc (.cells #[.int .i64 rate, .int .i64 mom, .int .i64 q] 23)).heap.size = w.heap.size + 1 := by simp
  have BB := (Below.refl (w.alloc (.cells #[.int .i64 rate, .int .i64 mom, .int .i64 q] 23)).heap.size (w.alloc (.cells #[.int .i64 rate, .int .i64 mom, .int .i64 q] 23))).alloc (Nat.le_refl _) (.cells #[p, m] 26)
  have s01 := cells_two (w.alloc (.cells #[.int .i64 rate, .int .i64 mom, .int .i64 q] 23)) p m 26
  have sf := World.frozen?_alloc_new (w.alloc (.cells #[.int .i64 rate, .int .i64 mom, .int .i64 q] 23)) #[p, m] 26
  have hz0 : ((w.alloc (.cells #[.int .i64 rate, .int .i64 mom, .int .i64 q] 23)).alloc (.cells #[p, m] 26)).heap.size = w.heap.size + 2 := by simp
  have r0 := cell_step BB r012.1
  have r1 := cell_step BB r012.2.1
  have r2 := cell_step BB r012.2.2
  have AL := BA.trans (BB.mono (by omega))
  have sf0 := sf 0
  have sf1 := sf 1
  rw [hzA] at s01 sf0 sf1
  have IA := Lib.hid (And.intro (ip.later AL) (im.later AL))
  have hRobP : Rob (IntsW .i64) (fun j => j = w.heap.size + 1 ∨ (Value.slice none 0 0).ownBlock = some j) ((w.alloc (.cells #[.int .i64 rate, .int .i64 mom, .int .i64 q] 23)).alloc (.cells #[p, m] 26)) p zp := ⟨IA.out.1, fun hz j e => by
    obtain ⟨h1, h2⟩ := intsW_block ip hz e
    exact ⟨by omega, fun h3 => h3.elim (fun h => by omega) (fun h => by cases h)⟩⟩
  have hRobM : Rob (IntsW .i64) (fun j => j = w.heap.size + 1 ∨ (Value.slice none 0 0).ownBlock = some j) ((w.alloc (.cells #[.int .i64 rate, .int .i64 mom, .int .i64 q] 23)).alloc (.cells #[p, m] 26)) m zm := ⟨IA.out.2, fun hz j e => by
    obtain ⟨h1, h2⟩ := intsW_block im hz e
    exact ⟨by omega, fun h3 => h3.elim (fun h => by omega) (fun h => by cases h)⟩⟩
  have HR0 : Hid (RunAt (IntsW .i64) 26 rate mom q (zp, zm) gs w (.slice none 0 0) 0 ((w.alloc (.cells #[.int .i64 rate, .int .i64 mom, .int .i64 q] 23)).alloc (.cells #[p, m] 26))) :=
    Lib.hid ⟨[], p, m, rfl, hF, World.ownsRow_nil _ _ _ _, StatesRob.nil _ _, r0, r1, r2, s01.1, s01.2, sf0, sf1, hRobP, hRobM, AL⟩
  obtain ⟨a1, c1, rfl⟩ := ip.value
  obtain ⟨a2, c2, rfl⟩ := im.value
  obtain ⟨a3, c3, rfl⟩ := hv.value
  have HV := Lib.hid hv
  have HG := Lib.hid hg
  clear BA BB r012 s01 sf sf0 sf1 r0 r1 r2 IA hRobP hRobM AL ip im hv hg hzA
  go_enter Try.func24, Try.ntmps24
  go_wp2_with fail
  generalize ((w.alloc (.cells #[.int .i64 rate, .int .i64 mom, .int .i64 q] 23)).alloc (.cells #[.slice a1 zp.length c1, .slice a2 zm.length c2] 26)) = W0 at *
  go_loopw [8, 9, 10, 11] (fun st i _ _ wr => ∃ k : Nat, k ≤ gs.length ∧ i = .int .i64 k ∧ Hid (RunAt (IntsW .i64) 26 rate mom q (zp, zm) gs w st k wr)) (fun _ i _ _ _ => gs.length - (intOf i).toNat)
  case atStart => exact ⟨0, Nat.zero_le _, rfl, HR0⟩
  case round =>
    obtain ⟨k, hk, rfl, HRk⟩ := hrel
    obtain ⟨us, pv, mv, rb, fin, own, srob, r0, r1, r2, s0, s1, sf0, sf1, rp, rm, bw⟩ := HRk.out
    obtain ⟨sa, sc, rfl⟩ := own_value own
    by_cases hlt : k < gs.length
    · rcases HV.out.form with ⟨_, e0⟩ | ⟨b, off, c', e0, hcap, hgb, hcs⟩
      · rw [e0] at hlt; simp at hlt
      cases e0
      obtain ⟨ga, gc, hc, hI⟩ := hcs k hlt
      have gcell := (bw.cell (p := ⟨b, off + k, none⟩) hgb).trans hc
      obtain ⟨g, hgk⟩ : ∃ g, gs[k]? = some g := ⟨_, List.getElem?_eq_getElem hlt⟩
      rw [hgk, Option.getD_some] at gcell hI
      have hgl : g.length * 8 ≤ 140737488351232 := HG.out g (List.mem_of_getElem? hgk)
      obtain ⟨cur, hcur⟩ : ∃ cur, cur = curS rate mom q (zp, zm) (gs.take k) := ⟨_, rfl⟩
      rw [← hcur] at fin rp rm
      obtain ⟨pa, pc, rfl⟩ := rp.1.value
      obtain ⟨ma, mc, rfl⟩ := rm.1.value
      have HNX := Lib.hid (fun W (bW : Below wr.heap.size wr W) => refNext_any rate mom q hr ho (.slice pa cur.1.length pc) (.slice ma cur.2.length mc) (.slice ga g.length gc) cur.1 cur.2 g fin.2.1 fin.2.2.1 W (rp.1.later bW) (rm.1.later bW) (hI.below (bw.trans (bW.mono bw.size)) |>.grow (by have := bw.size; have := bW.size; omega)))
      have HALL := Lib.hid (And.intro rb (And.intro fin (And.intro own (And.intro srob (And.intro rp (And.intro rm (And.intro bw (And.intro sf0 sf1))))))))
      have HGK := Lib.hid (And.intro hgk hcur)
      have hzw : w.heap.size + 2 ≤ wr.heap.size := by
        have h := World.block_lt_of_cell? _ _ s0
        simp only at h
        omega
      generalize cur.1.length = n1 at *
      generalize cur.2.length = n2 at *
      clear rb fin own srob rp rm bw sf0 sf1 hgk hcur hc hI hcs
      go_wp2_with fail
      refine (fun (TAIL : Hid (?G : Prop)) => ?main) (Lib.hid ?tail)
      case main =>
        have B00 := (Below.refl wr.heap.size wr).drew
        have zd : wr.drew.heap.size = wr.heap.size := rfl
        refine wp_region_held_drew (S := fun w' => w'.cell? ⟨w.heap.size, 0, none⟩ = some (.int .i64 rate) ∧ w'.cell? ⟨w.heap.size, 1, none⟩ = some (.int .i64 mom) ∧ w'.cell? ⟨w.heap.size, 2, none⟩ = some (.int .i64 q) ∧ w'.cell? ⟨w.heap.size + 1, 0, none⟩ = some (.slice pa n1 pc) ∧ w'.cell? ⟨w.heap.size + 1, 1, none⟩ = some (.slice ma n2 mc) ∧ w'.cell? ⟨b, off + k, none⟩ = some (.slice ga g.length gc) ∧ Below wr.heap.size wr w') (by kernel_rfl) ?_ (fun hHeld => ?_)
        · exact ⟨cell_step B00 r0, cell_step B00 r1, cell_step B00 r2, cell_step B00 s0, cell_step B00 s1, cell_step B00 gcell, B00⟩
        refine wpAnyH_take (i := 0) (v := ?v1) rfl (by kernel_rfl) (by kernel_rfl) (by kernel_rfl) (fun _ _ _ h => h) (Or.inl ⟨by rfl, ?hy1⟩) (by assumption) ?rest1
        case hy1 => (intro w hSw; (try dsimp only at hSw); go_simp; (first | done | with_reducible rfl))
        simp only [Act.put, List.setIfInBounds_toArray, List.set_cons_zero, List.set_cons_succ, List.getElem_toArray, List.getElem_cons_zero]
        refine wpAnyH_take (i := 1) (v := ?v2) rfl (by kernel_rfl) (by kernel_rfl) (by kernel_rfl) (fun _ _ _ h => h) (Or.inl ⟨by rfl, ?hy2⟩) (by assumption) ?rest2
        case hy2 => (intro w hSw; (try dsimp only at hSw); go_simp; (first | done | with_reducible rfl))
        simp only [Act.put, List.setIfInBounds_toArray, List.set_cons_zero, List.set_cons_succ, List.getElem_toArray, List.getElem_cons_zero, List.getElem_cons_succ]
        refine wpAnyH_take (i := 2) (v := ?v3) rfl (by kernel_rfl) (by kernel_rfl) (by kernel_rfl) (fun _ _ _ h => h) (Or.inl ⟨by rfl, ?hy3⟩) (by assumption) ?rest3
        case hy3 => (intro w hSw; (try dsimp only at hSw); go_simp; (first | done | with_reducible rfl))
        simp only [Act.put, List.setIfInBounds_toArray, List.set_cons_zero, List.set_cons_succ, List.getElem_toArray, List.getElem_cons_zero, List.getElem_cons_succ]
        refine wpAnyH_take (i := 3) (v := ?v4) rfl (by kernel_rfl) (by kernel_rfl) (by kernel_rfl) (fun _ _ _ h => h) (Or.inl ⟨by rfl, ?hy4⟩) (by assumption) ?rest4
        case hy4 => (intro w hSw; (try dsimp only at hSw); go_simp; (first | done | with_reducible rfl))
        simp only [Act.put, List.setIfInBounds_toArray, List.set_cons_zero, List.set_cons_succ, List.getElem_toArray, List.getElem_cons_zero, List.getElem_cons_succ]
        refine wpAnyH_take (i := 4) (v := ?v5) rfl (by kernel_rfl) (by kernel_rfl) (by kernel_rfl) (fun _ _ _ h => h) (Or.inl ⟨by rfl, ?hy5⟩) (by assumption) ?rest5
        case hy5 => (intro w hSw; (try dsimp only at hSw); go_simp; (first | done | with_reducible rfl))
        simp only [Act.put, List.setIfInBounds_toArray, List.set_cons_zero, List.set_cons_succ, List.getElem_toArray, List.getElem_cons_zero, List.getElem_cons_succ]
        refine wpAnyH_take (i := 5) (v := ?v6) rfl (by kernel_rfl) (by kernel_rfl) (by kernel_rfl) (fun _ _ _ h => h) (Or.inl ⟨by rfl, ?hy6⟩) (by assumption) ?rest6
        case hy6 => (intro w hSw; (try dsimp only at hSw); go_simp; (first | done | with_reducible rfl))
        simp only [Act.put, List.setIfInBounds_toArray, List.set_cons_zero, List.set_cons_succ, List.getElem_toArray, List.getElem_cons_zero, List.getElem_cons_succ]
        refine wpAnyH_ready (rs := [6, 10]) (by kernel_rfl) (by simp) ?_
        refine AllReadyH.cons rfl (fun K hK => ?_) ?_
        · try simp only [Act.put, List.setIfInBounds_toArray, List.set_cons_zero, List.set_cons_succ, List.getElem_toArray, List.getElem_cons_zero, List.getElem_cons_succ]
          go_simp
          go_at_call 13
          refine (HNX.out _ B00).mono ?_
          intro e w4 h4
          obtain ⟨an, nn, cn, ao, no, co, rfl, RN, b4⟩ := h4.form
          have B4 := B00.trans (b4.mono B00.size)
          clear h4
          go_wp2_with fail
          refine hK.out _ _ ⟨cell_step B4 r0, cell_step B4 r1, cell_step B4 r2, cell_step B4 s0, cell_step B4 s1, cell_step B4 gcell, B4⟩ (fun hHeld => ?_)
          clear hK K
          try simp only [Act.put, List.setIfInBounds_toArray, List.set_cons_zero, List.set_cons_succ, List.getElem_toArray, List.getElem_cons_zero, List.getElem_cons_succ]
          refine wpAnyH_take (i := 7) (v := ?v7) rfl (by kernel_rfl) (by kernel_rfl) (by kernel_rfl) (fun _ _ _ h => h) (Or.inl ⟨by rfl, ?hy7⟩) (by assumption) ?rest7
          case hy7 => (intro w hSw; (try dsimp only at hSw); go_simp; (first | done | with_reducible rfl))
          simp only [Act.put, List.setIfInBounds_toArray, List.set_cons_zero, List.set_cons_succ, List.getElem_toArray, List.getElem_cons_zero, List.getElem_cons_succ]
          refine wpAnyH_take (i := 8) (v := ?v8) rfl (by kernel_rfl) (by kernel_rfl) (by kernel_rfl) (fun _ _ _ h => h) (Or.inl ⟨by rfl, ?hy8⟩) (by assumption) ?rest8
          case hy8 => (intro w hSw; (try dsimp only at hSw); go_simp; (first | done | with_reducible rfl))
          simp only [Act.put, List.setIfInBounds_toArray, List.set_cons_zero, List.set_cons_succ, List.getElem_toArray, List.getElem_cons_zero, List.getElem_cons_succ]
          refine wpAnyH_take (i := 9) (v := ?v9) rfl (by kernel_rfl) (by kernel_rfl) (by kernel_rfl) (fun _ _ _ h => h) (Or.inl ⟨by rfl, ?hy9⟩) (by assumption) ?rest9
          case hy9 => (intro w hSw; (try dsimp only at hSw); go_simp; (first | done | with_reducible rfl))
          simp only [Act.put, List.setIfInBounds_toArray, List.set_cons_zero, List.set_cons_succ, List.getElem_toArray, List.getElem_cons_zero, List.getElem_cons_succ]
          refine wpAnyH_ready (rs := [10]) (by kernel_rfl) (by simp) ?_
          refine AllReadyH.cons rfl (fun K hK => ?_) AllReadyH.nil
          simp only [List.getElem_toArray, List.getElem_cons_zero, List.getElem_cons_succ]
          go_simp
          have bU := (Below.refl w4.heap.size w4).alloc (Nat.le_refl _) (.cells #[.slice none 0 0, .slice none 0 0] 26)
          have hU := cells_two w4 (.slice none 0 0) (.slice none 0 0) 26
          have fU := World.frozen?_alloc_new w4 #[.slice none 0 0, .slice none 0 0] 26
          have BU := B4.trans (bU.mono B4.size)
          have y0 := hU.1
          have y1 := hU.2
          have f0 := fU 0
          have f1 := fU 1
          refine hK.out _ _ ⟨cell_step BU r0, cell_step BU r1, cell_step BU r2, cell_step BU s0, cell_step BU s1, cell_step BU gcell, BU⟩ (fun hHeld => ?_)
          clear hK K hU fU
          try simp only [Act.put, List.setIfInBounds_toArray, List.set_cons_zero, List.set_cons_succ, List.getElem_toArray, List.getElem_cons_zero, List.getElem_cons_succ]
          have z4 := b4.size
          have hpu : (Value.slice an nn cn).ownBlock ≠ some w4.heap.size := fun e => by have := (RN.lt1 _ e).2; omega
          have hmu : (Value.slice ao no co).ownBlock ≠ some w4.heap.size := fun e => by have := (RN.lt2 _ e).2; omega
          have RNv := (RN.mono (show wr.heap.size ≤ wr.drew.heap.size from Nat.le_refl _)).grown (grown_below bU none) (fun k e => by cases e) (fun k e => by cases e)
          have hVU : wr.heap.size ≤ w4.heap.size := by omega
          have BVV := BU
          clear BU bU b4 B4 RN z4
          generalize w4.alloc (.cells #[.slice none 0 0, .slice none 0 0] 26) = WV at *
          generalize w4.heap.size = UU at *
          refine wpAnyH_ready (rs := [11]) (by kernel_rfl) (by simp) ?_
          refine AllReadyH.cons rfl (fun K hK => ?_) AllReadyH.nil
          simp only [List.getElem_toArray, List.getElem_cons_zero, List.getElem_cons_succ]
          have ST_ := stored2 (.slice an nn cn) (.slice ao no co) y0 y1 f0 f1
          have B9 := BVV.trans (ST_.2.2.2.2.mono hVU)
          have F : UU < ((WV.setCell ⟨UU, 0, none⟩ (.slice an nn cn)).setCell ⟨UU, 1, none⟩ (.slice ao no co)).heap.size ∧ wr.heap.size ≤ UU ∧ ((WV.setCell ⟨UU, 0, none⟩ (.slice an nn cn)).setCell ⟨UU, 1, none⟩ (.slice ao no co)).cell? ⟨UU, 0, none⟩ = some (.slice an nn cn) ∧ ((WV.setCell ⟨UU, 0, none⟩ (.slice an nn cn)).setCell ⟨UU, 1, none⟩ (.slice ao no co)).cell? ⟨UU, 1, none⟩ = some (.slice ao no co) ∧ NextRows (nextOk cur.1 cur.2 g) wr.heap.size (.slice an nn cn) (.slice ao no co) (stepS rate mom q cur g).1 (stepS rate mom q cur g).2 ((WV.setCell ⟨UU, 0, none⟩ (.slice an nn cn)).setCell ⟨UU, 1, none⟩ (.slice ao no co)) ∧ Below wr.heap.size wr ((WV.setCell ⟨UU, 0, none⟩ (.slice an nn cn)).setCell ⟨UU, 1, none⟩ (.slice ao no co)) := ⟨Nat.lt_of_lt_of_le (World.block_lt_of_cell? _ _ y0) ST_.2.2.2.2.size, hVU, ST_.1, ST_.2.1, RNv.grown (grown_trans (grown_set WV (UU) 0 (.slice an nn cn)) (grown_set _ (UU) 1 (.slice ao no co))) (fun k e e2 => by cases e; exact hpu e2) (fun k e e2 => by cases e; exact hmu e2), B9⟩
          have y0_ := y0
          have y1_ := y1
          have f0_ := f0
          have f1_ := f1
          clear ST_
          go_simp
          refine hK.out _ _ ⟨cell_step B9 r0, cell_step B9 r1, cell_step B9 r2, cell_step B9 s0, cell_step B9 s1, cell_step B9 gcell, B9⟩ (fun hHeld => ?_)
          clear hK K
          try simp only [Act.put, List.setIfInBounds_toArray, List.set_cons_zero, List.set_cons_succ, List.getElem_toArray, List.getElem_cons_zero, List.getElem_cons_succ]
          refine wpAnyH_take (i := 12) (v := ?v10) rfl (by kernel_rfl) (by kernel_rfl) (by kernel_rfl) (fun _ _ _ h => h) (Or.inl ⟨by rfl, ?hy10⟩) (by assumption) ?rest10
          case hy10 => (intro w hSw; (try dsimp only at hSw); go_simp; (first | done | with_reducible rfl))
          simp only [Act.put, List.setIfInBounds_toArray, List.set_cons_zero, List.set_cons_succ, List.getElem_toArray, List.getElem_cons_zero, List.getElem_cons_succ]
          refine wpAnyH_done (by kernel_rfl) ?_ _
          clear hHeld y0_ y1_ f0_ f1_ y0 y1 f0 f1 B9
          clear RNv hpu hmu hVU BVV
          generalize (WV.setCell ⟨UU, 0, none⟩ (.slice an nn cn)).setCell ⟨UU, 1, none⟩ (.slice ao no co) = W5 at *
          clear zd B00
          revert an nn cn ao no co UU W5
          exact TAIL.out
        refine AllReadyH.cons rfl (fun K hK => ?_) AllReadyH.nil
        try simp only [Act.put, List.setIfInBounds_toArray, List.set_cons_zero, List.set_cons_succ, List.getElem_toArray, List.getElem_cons_zero, List.getElem_cons_succ]
        go_simp
        have bU := ((Below.refl wr.heap.size wr).alloc (Nat.le_refl _) (.cells #[.slice none 0 0, .slice none 0 0] 26)).drew
        have hU := cells_two wr (.slice none 0 0) (.slice none 0 0) 26
        have fU := World.frozen?_alloc_new wr #[.slice none 0 0, .slice none 0 0] 26
        have bD := (Below.refl (wr.alloc (.cells #[.slice none 0 0, .slice none 0 0] 26)).heap.size (wr.alloc (.cells #[.slice none 0 0, .slice none 0 0] 26))).drew
        have y0 := cell_step bD hU.1
        have y1 := cell_step bD hU.2
        have f0 := frozen_step bD hU.1 (fU 0)
        have f1 := frozen_step bD hU.2 (fU 1)
        have hzU : (wr.alloc (.cells #[.slice none 0 0, .slice none 0 0] 26)).drew.heap.size = wr.heap.size + 1 := by simp
        refine hK.out _ _ ⟨cell_step bU r0, cell_step bU r1, cell_step bU r2, cell_step bU s0, cell_step bU s1, cell_step bU gcell, bU⟩ (fun hHeld => ?_)
        clear hK K hU fU bD
        try simp only [Act.put, List.setIfInBounds_toArray, List.set_cons_zero, List.set_cons_succ, List.getElem_toArray, List.getElem_cons_zero, List.getElem_cons_succ]
        generalize (wr.alloc (.cells #[.slice none 0 0, .slice none 0 0] 26)).drew = W1_ at *
        refine wpAnyH_ready (rs := [6]) (by kernel_rfl) (by simp) ?_
        refine AllReadyH.cons rfl (fun K hK => ?_) AllReadyH.nil
        simp only [List.getElem_toArray, List.getElem_cons_zero, List.getElem_cons_succ]
        go_simp
        go_at_call 13
        refine (HNX.out _ bU).mono ?_
        intro e w4 h4
        obtain ⟨an, nn, cn, ao, no, co, rfl, RN, b4⟩ := h4.form
        have B4 := bU.trans (b4.mono bU.size)
        clear h4
        go_wp2_with fail
        refine hK.out _ _ ⟨cell_step B4 r0, cell_step B4 r1, cell_step B4 r2, cell_step B4 s0, cell_step B4 s1, cell_step B4 gcell, B4⟩ (fun hHeld => ?_)
        clear hK K
        try simp only [Act.put, List.setIfInBounds_toArray, List.set_cons_zero, List.set_cons_succ, List.getElem_toArray, List.getElem_cons_zero, List.getElem_cons_succ]
        refine wpAnyH_take (i := 7) (v := ?v11) rfl (by kernel_rfl) (by kernel_rfl) (by kernel_rfl) (fun _ _ _ h => h) (Or.inl ⟨by rfl, ?hy11⟩) (by assumption) ?rest11
        case hy11 => (intro w hSw; (try dsimp only at hSw); go_simp; (first | done | with_reducible rfl))
        simp only [Act.put, List.setIfInBounds_toArray, List.set_cons_zero, List.set_cons_succ, List.getElem_toArray, List.getElem_cons_zero, List.getElem_cons_succ]
        refine wpAnyH_take (i := 8) (v := ?v12) rfl (by kernel_rfl) (by kernel_rfl) (by kernel_rfl) (fun _ _ _ h => h) (Or.inl ⟨by rfl, ?hy12⟩) (by assumption) ?rest12
        case hy12 => (intro w hSw; (try dsimp only at hSw); go_simp; (first | done | with_reducible rfl))
        simp only [Act.put, List.setIfInBounds_toArray, List.set_cons_zero, List.set_cons_succ, List.getElem_toArray, List.getElem_cons_zero, List.getElem_cons_succ]
        refine wpAnyH_take (i := 9) (v := ?v13) rfl (by kernel_rfl) (by kernel_rfl) (by kernel_rfl) (fun _ _ _ h => h) (Or.inl ⟨by rfl, ?hy13⟩) (by assumption) ?rest13
        case hy13 => (intro w hSw; (try dsimp only at hSw); go_simp; (first | done | with_reducible rfl))
        simp only [Act.put, List.setIfInBounds_toArray, List.set_cons_zero, List.set_cons_succ, List.getElem_toArray, List.getElem_cons_zero, List.getElem_cons_succ]
        have z4 := b4.size
        have hpu : (Value.slice an nn cn).ownBlock ≠ some wr.heap.size := fun e => by have := (RN.lt1 _ e).1; omega
        have hmu : (Value.slice ao no co).ownBlock ≠ some wr.heap.size := fun e => by have := (RN.lt2 _ e).1; omega
        have f0 := frozen_step b4 y0 f0
        have f1 := frozen_step b4 y1 f1
        have y0 := cell_step b4 y0
        have y1 := cell_step b4 y1
        have RNv := RN.mono (show wr.heap.size ≤ W1_.heap.size by omega)
        have hVU : wr.heap.size ≤ wr.heap.size := Nat.le_refl _
        have BVV := B4
        refine wpAnyH_ready (rs := [11]) (by kernel_rfl) (by simp) ?_
        refine AllReadyH.cons rfl (fun K hK => ?_) AllReadyH.nil
        simp only [List.getElem_toArray, List.getElem_cons_zero, List.getElem_cons_succ]
        have ST_ := stored2 (.slice an nn cn) (.slice ao no co) y0 y1 f0 f1
        have B9 := BVV.trans (ST_.2.2.2.2.mono hVU)
        have F : wr.heap.size < ((w4.setCell ⟨wr.heap.size, 0, none⟩ (.slice an nn cn)).setCell ⟨wr.heap.size, 1, none⟩ (.slice ao no co)).heap.size ∧ wr.heap.size ≤ wr.heap.size ∧ ((w4.setCell ⟨wr.heap.size, 0, none⟩ (.slice an nn cn)).setCell ⟨wr.heap.size, 1, none⟩ (.slice ao no co)).cell? ⟨wr.heap.size, 0, none⟩ = some (.slice an nn cn) ∧ ((w4.setCell ⟨wr.heap.size, 0, none⟩ (.slice an nn cn)).setCell ⟨wr.heap.size, 1, none⟩ (.slice ao no co)).cell? ⟨wr.heap.size, 1, none⟩ = some (.slice ao no co) ∧ NextRows (nextOk cur.1 cur.2 g) wr.heap.size (.slice an nn cn) (.slice ao no co) (stepS rate mom q cur g).1 (stepS rate mom q cur g).2 ((w4.setCell ⟨wr.heap.size, 0, none⟩ (.slice an nn cn)).setCell ⟨wr.heap.size, 1, none⟩ (.slice ao no co)) ∧ Below wr.heap.size wr ((w4.setCell ⟨wr.heap.size, 0, none⟩ (.slice an nn cn)).setCell ⟨wr.heap.size, 1, none⟩ (.slice ao no co)) := ⟨Nat.lt_of_lt_of_le (World.block_lt_of_cell? _ _ y0) ST_.2.2.2.2.size, hVU, ST_.1, ST_.2.1, RNv.grown (grown_trans (grown_set w4 (wr.heap.size) 0 (.slice an nn cn)) (grown_set _ (wr.heap.size) 1 (.slice ao no co))) (fun k e e2 => by cases e; exact hpu e2) (fun k e e2 => by cases e; exact hmu e2), B9⟩
        have y0_ := y0
        have y1_ := y1
        have f0_ := f0
        have f1_ := f1
        clear ST_
        go_simp
        refine hK.out _ _ ⟨cell_step B9 r0, cell_step B9 r1, cell_step B9 r2, cell_step B9 s0, cell_step B9 s1, cell_step B9 gcell, B9⟩ (fun hHeld => ?_)
        clear hK K
        try simp only [Act.put, List.setIfInBounds_toArray, List.set_cons_zero, List.set_cons_succ, List.getElem_toArray, List.getElem_cons_zero, List.getElem_cons_succ]
        refine wpAnyH_take (i := 12) (v := ?v14) rfl (by kernel_rfl) (by kernel_rfl) (by kernel_rfl) (fun _ _ _ h => h) (Or.inl ⟨by rfl, ?hy14⟩) (by assumption) ?rest14
        case hy14 => (intro w hSw; (try dsimp only at hSw); go_simp; (first | done | with_reducible rfl))
        simp only [Act.put, List.setIfInBounds_toArray, List.set_cons_zero, List.set_cons_succ, List.getElem_toArray, List.getElem_cons_zero, List.getElem_cons_succ]
        refine wpAnyH_done (by kernel_rfl) ?_ _
        clear hHeld y0_ y1_ f0_ f1_ y0 y1 f0 f1 B9
        exact TAIL.out _ _ _ _ _ _ _ _ F
      case tail =>
        intro an nn cn ao no co UU W5 F
        obtain ⟨hU1, hU2, x0, x1, RN, b5⟩ := F
        obtain ⟨rb, fin, own, srob, rp, rm, bw, sf0, sf1⟩ := HALL.out
        have sf0 := frozen_step b5 s0 sf0
        have sf1 := frozen_step b5 s1 sf1
        have r0 := cell_step b5 r0
        have r1 := cell_step b5 r1
        have r2 := cell_step b5 r2
        have s0 := cell_step b5 s0
        have s1 := cell_step b5 s1
        have hz5 := b5.size
        have B5 := bw.trans (b5.mono (by omega))
        cases hok : nextOk cur.1 cur.2 g
        · have hB : runB rate mom q (zp, zm) gs = false := run_stop rate mom q (zp, zm) gs k g HGK.out.1 (by rw [← HGK.out.2]; exact hok)
          have hR : runR rate mom q (zp, zm) gs = [] := by unfold runR; rw [hB]; rfl
          have HB := Lib.hid B5
          clear rb fin own srob rp rm bw sf0 sf1 r0 r1 r2 s0 s1 x0 x1 RN b5 B5 hok
          go_wp2_with fail
          go_ret2
          unfold RunIs
          rw [hB, hR]
          exact ⟨_, [], rfl, World.ownsRow_nil _ _ _ _, StatesIn.nil _, HB.out⟩
        · unfold NextRows at RN
          rw [hok, if_pos rfl] at RN
          have hbX : ∀ j, wr.heap.size ≤ j → j < W5.heap.size → ¬ (j = w.heap.size + 1 ∨ (Value.slice sa k sc).ownBlock = some j) := fun j h1 h2 h3 => h3.elim (fun h => by omega) (fun h => by have := (own.lt j h).2; omega)
          obtain ⟨nst, hnst⟩ : ∃ nst, nst = stepS rate mom q cur g := ⟨_, rfl⟩
          rw [← hnst] at RN
          have hn1 : nn = nst.1.length ∧ no = nst.2.length := by
            obtain ⟨_, _, e1⟩ := own_value RN.1
            obtain ⟨_, _, e2⟩ := own_value RN.2
            injection e1 with _ e1 _
            injection e2 with _ e2 _
            exact ⟨e1, e2⟩
          have NP := Lib.hid (Rob.own (X := fun j => j = w.heap.size + 1 ∨ (Value.slice sa k sc).ownBlock = some j) rfl RN.1 hbX)
          have NM := Lib.hid (Rob.own (X := fun j => j = w.heap.size + 1 ∨ (Value.slice sa k sc).ownBlock = some j) rfl RN.2 hbX)
          have hnoX : ∀ j, (none : Option Nat) = some j → (j = w.heap.size + 1 ∨ (Value.slice sa k sc).ownBlock = some j) := fun j e => by cases e
          have SR5 := Lib.hid (srob.grown (grown_below b5 none) hnoX)
          have OWN5 := Lib.hid (own_below own b5)
          have hsb : ∀ j, (Value.slice sa k sc).ownBlock = some j → w.heap.size + 2 ≤ j ∧ j < wr.heap.size := fun j e => own.lt j e
          have fin' : Fine nst := by rw [hnst]; exact fin.step rate mom q cur g hok
          have rb' : runB rate mom q (zp, zm) (gs.take (k + 1)) = true := by
            rw [take_more gs k g HGK.out.1, runB_append, rb, ← HGK.out.2]
            simp [runB, hok]
          have rl' : runL rate mom q (zp, zm) (gs.take (k + 1)) = runL rate mom q (zp, zm) (gs.take k) ++ [nst] := by
            rw [take_more gs k g HGK.out.1, runL_snoc, ← HGK.out.2, hnst]
          have cu' : curS rate mom q (zp, zm) (gs.take (k + 1)) = nst := by
            rw [take_more gs k g HGK.out.1, curS_snoc, ← HGK.out.2, hnst]
          have HST := Lib.hid (And.intro fin' (And.intro rb' (And.intro rl' cu')))
          have HB5 := Lib.hid B5
          have HN1 := Lib.hid hn1
          clear rb fin own srob rp rm bw RN b5 B5 hbX hnoX hnst fin' rb' rl' cu' hn1
          have STS := Lib.hid (stored2 (.slice an nn cn) (.slice ao no co) s0 s1 sf0 sf1)
          have G6 : W5.grownBy ((W5.setCell ⟨w.heap.size + 1, 0, none⟩ (.slice an nn cn)).setCell ⟨w.heap.size + 1, 1, none⟩ (.slice ao no co)) (some (w.heap.size + 1)) := (grown_trans (grown_set W5 (w.heap.size + 1) 0 (.slice an nn cn)) (grown_set _ (w.heap.size + 1) 1 (.slice ao no co)))
          have hne1 : ∀ k_, some (w.heap.size + 1) = some k_ → (Value.slice sa k sc).ownBlock ≠ some k_ := fun j e e2 => by have := hsb j e2; have h1 : w.heap.size + 1 = j := Option.some.inj e; omega
          have OWN6 := Lib.hid (row_apart OWN5.out G6 hne1)
          have hXB : ∀ j, some (w.heap.size + 1) = some j → (j = w.heap.size + 1 ∨ (Value.slice sa k sc).ownBlock = some j) := fun j e => .inl (Option.some.inj e).symm
          have SR6 := Lib.hid (SR5.out.grown G6 hXB)
          have NP6 := Lib.hid (NP.out.grown keepsAt G6 hXB)
          have NM6 := Lib.hid (NM.out.grown keepsAt G6 hXB)
          have hux : some (w.heap.size + 1) ≠ some UU := fun e => by have h1 : w.heap.size + 1 = UU := Option.some.inj e; omega
          have x2 := (cell_apart (g := UU) (o := 0) G6 hU1 hux).trans x0
          have x3 := (cell_apart (g := UU) (o := 1) G6 hU1 hux).trans x1
          have hz6 := G6.size
          have hz6e : (((W5.setCell ⟨w.heap.size + 1, 0, none⟩ (.slice an nn cn)).setCell ⟨w.heap.size + 1, 1, none⟩ (.slice ao no co))).heap.size = W5.heap.size := by simp
          have t0 := (STS.out.2.2.2.2.cell (p := ⟨w.heap.size, 0, none⟩) (Nat.lt_succ_self _)).trans r0
          have t1 := (STS.out.2.2.2.2.cell (p := ⟨w.heap.size, 1, none⟩) (Nat.lt_succ_self _)).trans r1
          have t2 := (STS.out.2.2.2.2.cell (p := ⟨w.heap.size, 2, none⟩) (Nat.lt_succ_self _)).trans r2
          have T012 := Lib.hid (And.intro t0 (And.intro t1 t2))
          have HB6 := Lib.hid (HB5.out.trans (STS.out.2.2.2.2.mono (Nat.le_succ _)))
          clear t0 t1 t2 hXB hne1 hux r0 r1 r2
          go_wp2_with (at_builtin; go_loud (refine append_one_lies elemRS rfl _ _ rfl rfl rfl hz6e OWN6.out rfl ?_ ?_ ?_ ?_ ?_; (simp [Value.oneCell']); (unfold maxLen; omega); omega; (exact Nat.le_trans (show w.heap.size + 2 ≤ W5.heap.size by omega) hz6); intro b' cap' w7 ho7 hg7 hat7; have HO6 := Lib.hid ho7; have HG6 := Lib.hid hg7; have HAT := Lib.hid hat7; clear ho7 hg7 hat7))
          have hXY : ∀ j, j < (((W5.setCell ⟨w.heap.size + 1, 0, none⟩ (.slice an nn cn)).setCell ⟨w.heap.size + 1, 1, none⟩ (.slice ao no co))).heap.size → ¬ (j = w.heap.size + 1 ∨ (Value.slice sa k sc).ownBlock = some j) → ¬ (j = w.heap.size + 1 ∨ (Value.slice (some ⟨b', 0, none⟩) (k + 1) cap').ownBlock = some j) := fun j h1 h2 h3 => h3.elim (fun h => h2 (.inl h)) (fun h => by
            have hb : b' = j := Option.some.inj h
            rcases HAT.out with h4 | h4
            · exact h2 (.inr (by rw [← hb]; exact h4))
            · omega)
          have SRF := Lib.hid (SR6.out.go HG6.out (fun j e => .inr e) hXY)
          have NPF := Lib.hid (NP6.out.go keepsAt HG6.out (fun j e => .inr e) hXY)
          have NMF := Lib.hid (NM6.out.go keepsAt HG6.out (fun j e => .inr e) hXY)
          have OWNF := Lib.hid (show w7.ownsRow (w.heap.size + 2) 26 2 (.slice (some ⟨b', 0, none⟩) (k + 1) cap') (k + 1) (stc (us ++ [(.slice an nn cn, .slice ao no co)])) from by
            rw [stc_append]
            exact HO6.out)
          have hl6 := HG6.out.size
          have B7 := HB6.out.grown HG6.out (by omega) (fun j e => by have := hsb j e; omega)
          have gq : ∀ j, j < w.heap.size + 2 → (Value.slice sa k sc).ownBlock ≠ some j := fun j h e => by have := hsb j e; omega
          have CF := Lib.hid (And.intro ((cell_apart HG6.out (World.block_lt_of_cell? _ _ T012.out.1) (gq w.heap.size (by omega))).trans T012.out.1) (And.intro ((cell_apart HG6.out (World.block_lt_of_cell? _ _ T012.out.2.1) (gq w.heap.size (by omega))).trans T012.out.2.1) (And.intro ((cell_apart HG6.out (World.block_lt_of_cell? _ _ T012.out.2.2) (gq w.heap.size (by omega))).trans T012.out.2.2) (And.intro ((cell_apart HG6.out (World.block_lt_of_cell? _ _ STS.out.1) (gq (w.heap.size + 1) (by omega))).trans STS.out.1) (And.intro ((cell_apart HG6.out (World.block_lt_of_cell? _ _ STS.out.2.1) (gq (w.heap.size + 1) (by omega))).trans STS.out.2.1) (And.intro ((frozen_apart HG6.out (World.block_lt_of_cell? _ _ STS.out.1) (gq (w.heap.size + 1) (by omega))).trans STS.out.2.2.1) (And.intro ((frozen_apart HG6.out (World.block_lt_of_cell? _ _ STS.out.2.1) (gq (w.heap.size + 1) (by omega))).trans STS.out.2.2.2.1) B7)))))))
          refine ⟨⟨k + 1, by omega, by go_num, Lib.hid ⟨us ++ [(.slice an nn cn, .slice ao no co)], .slice an nn cn, .slice ao no co, HST.out.2.1, by rw [HST.out.2.2.2]; exact HST.out.1, OWNF.out, by rw [HST.out.2.2.1]; exact SRF.out.snoc NPF.out.ofAt NMF.out.ofAt, CF.out.1, CF.out.2.1, CF.out.2.2.1, CF.out.2.2.2.1, CF.out.2.2.2.2.1, CF.out.2.2.2.2.2.1, CF.out.2.2.2.2.2.2.1, by rw [HST.out.2.2.2]; exact NPF.out.ofAt, by rw [HST.out.2.2.2]; exact NMF.out.ofAt, CF.out.2.2.2.2.2.2.2⟩⟩, ?_⟩
          show gs.length - ((k : Int) + 1).toNat < gs.length - ((k : Int)).toNat
          omega
    · have hk' : k = gs.length := by omega
      subst hk'
      rw [List.take_of_length_le (Nat.le_refl _)] at rb srob
      have hR : runR rate mom q (zp, zm) gs = runL rate mom q (zp, zm) gs := by unfold runR; rw [rb]; rfl
      have HF := Lib.hid (show RunIs 26 true (runL rate mom q (zp, zm) gs) w (.returned (.tuple #[.slice sa gs.length sc, .bool true])) wr from ⟨_, us, rfl, by rw [runL_length]; exact owns_mono (by omega) own, srob.now, bw⟩)
      clear own srob rp rm bw r0 r1 r2 s0 s1 sf0 sf1 fin
      go_wp2_with fail
      go_ret2
      rw [hR, rb]
      exact HF.out
end Go.Proofs.Ytmffgbmjomaehaa
