/- States compared one by one; the walk of SgdRuns. -/
import Derived.Test.YtmffgbmjomaehaaSgdK
namespace Go.Proofs.Ytmffgbmjomaehaa
open Go.RowKit
set_option linter.unusedVariables false
theorem runL_fine (rate mom q : Int) (gs : List (List Int)) : ∀ (s : List Int × List Int), Fine s → runB rate mom q s gs = true → ∀ z ∈ runL rate mom q s gs, Fine z := by
  induction gs with
  | nil => intro s _ _ z hz; cases hz
  | cons g gs ih =>
    intro s hF hb z hz
    simp only [runB, Bool.and_eq_true] at hb
    have hF' := hF.step rate mom q s g hb.1
    simp only [runL, List.mem_cons] at hz
    rcases hz with rfl | hz
    · exact hF'
    · exact ih _ hF' hb.2 z hz
theorem runR_fine (rate mom q : Int) (gs : List (List Int)) (s : List Int × List Int) (hF : Fine s) : ∀ z ∈ runR rate mom q s gs, Fine z := by
  unfold runR
  cases h : runB rate mom q s gs
  · intro z hz; cases hz
  · exact runL_fine rate mom q gs s hF h
set_option maxHeartbeats 2000000 in
theorem sameAll_any (v u : Value) (l : List (List Int × List Int)) (us vs : List (Value × Value)) (b1 b2 : Nat) (w : World) (hl : l.length ≤ 140737488351232) (hf : ∀ z ∈ l, Fine z) (ov : w.ownsRow b1 26 2 v l.length (stc us)) (ou : w.ownsRow b2 26 2 u l.length (stc vs)) (sv : StatesIn w us l) (su : StatesIn w vs l) :
    Calls Try.prog 25 #[v, u] w fun e w' => e = .returned (.bool true) ∧ Below w.heap.size w w' := by
  obtain ⟨a1, c1, rfl⟩ := own_value ov
  obtain ⟨a2, c2, rfl⟩ := own_value ou
  have HH := Lib.hid (And.intro ov (And.intro ou (And.intro sv (And.intro su hf))))
  clear ov ou sv su hf
  go_enter Try.func25, Try.ntmps25
  go_wp2_with fail
  go_loopw [5] (fun i wr => ∃ k : Nat, k ≤ l.length ∧ i = .int .i64 k ∧ Below w.heap.size w wr) (fun i _ => l.length - (intOf i).toNat)
  case atStart => exact ⟨0, Nat.zero_le _, rfl, Below.refl _ _⟩
  case round =>
    obtain ⟨k, hk, rfl, bw⟩ := hrel
    by_cases hlt : k < l.length
    · obtain ⟨ov, ou, sv, su, hf⟩ := HH.out
      obtain ⟨g1, d1, e0, hg1, hg1'⟩ := own_some ov (by omega)
      cases e0
      obtain ⟨g2, d2, e0, hg2, hg2'⟩ := own_some ou (by omega)
      cases e0
      obtain ⟨z, hz⟩ : ∃ z, l[k]? = some z := ⟨_, List.getElem?_eq_getElem hlt⟩
      obtain ⟨x, hx⟩ : ∃ x, us[k]? = some x := ⟨_, List.getElem?_eq_getElem (show k < us.length by rw [sv.1]; exact hlt)⟩
      obtain ⟨y, hy⟩ : ∃ y, vs[k]? = some y := ⟨_, List.getElem?_eq_getElem (show k < vs.length by rw [su.1]; exact hlt)⟩
      have c10 := (bw.cell (p := ⟨g1, k * 2, none⟩) hg1').trans ((ov.cellAt (k * 2) (by omega)).trans (stc_at us k x hx).1)
      have c11 := (bw.cell (p := ⟨g1, k * 2 + 1, none⟩) hg1').trans ((ov.cellAt (k * 2 + 1) (by omega)).trans (stc_at us k x hx).2)
      have c20 := (bw.cell (p := ⟨g2, k * 2, none⟩) hg2').trans ((ou.cellAt (k * 2) (by omega)).trans (stc_at vs k y hy).1)
      have c21 := (bw.cell (p := ⟨g2, k * 2 + 1, none⟩) hg2').trans ((ou.cellAt (k * 2 + 1) (by omega)).trans (stc_at vs k y hy).2)
      have ix := sv.2 k x z hx hz
      have iy := su.2 k y z hy hz
      obtain ⟨x1, x2⟩ := x
      obtain ⟨y1, y2⟩ := y
      have hzf := hf z (List.mem_of_getElem? hz)
      have HS := Lib.hid (fun W (bW : Below wr.heap.size wr W) => (show Calls Try.prog 14 #[.agg #[x1, x2], .agg #[y1, y2]] W (fun e w' => e = .returned (.bool true) ∧ Below W.heap.size W w') from by
        have B := bw.trans (bW.mono bw.size)
        obtain ⟨_, _, f1, f2⟩ := hzf
        have X := refSame13_any x1 x2 y1 y2 z.1 z.2 z.1 z.2 (by omega) (by omega) (by omega) (by omega) W (ix.1.later B) (ix.2.later B) (iy.1.later B) (iy.2.later B)
        unfold sameS at X
        rw [sameL_self, sameL_self] at X
        exact X))
      obtain ⟨e1, d1_, rfl⟩ := ix.1.value
      obtain ⟨e2, d2_, rfl⟩ := ix.2.value
      obtain ⟨e3, d3_, rfl⟩ := iy.1.value
      obtain ⟨e4, d4_, rfl⟩ := iy.2.value
      generalize z.1.length = n1 at *
      generalize z.2.length = n2 at *
      have HBW := Lib.hid bw
      simp only at c10 c11 c20 c21
      clear ov ou sv su hf ix iy hx hy hz hzf bw
      have bd := (Below.refl wr.heap.size wr).drew
      go_wp2_with fail
      refine wp_region_held_drew (S := fun w' => w'.cell? ⟨g1, k * 2, none⟩ = some (.slice e1 n1 d1_) ∧ w'.cell? ⟨g1, k * 2 + 1, none⟩ = some (.slice e2 n2 d2_) ∧ w'.cell? ⟨g2, k * 2, none⟩ = some (.slice e3 n1 d3_) ∧ w'.cell? ⟨g2, k * 2 + 1, none⟩ = some (.slice e4 n2 d4_)) (by kernel_rfl) ?_ (fun hHeld => ?_)
      · exact ⟨cell_step bd c10, cell_step bd c11, cell_step bd c20, cell_step bd c21⟩
      refine wpAnyH_take (i := 0) (v := ?v1) rfl (by kernel_rfl) (by kernel_rfl) (by kernel_rfl) (fun _ _ _ h => h) (Or.inl ⟨by rfl, ?hy1⟩) (by assumption) ?rest1
      case hy1 => (intro w hSw; (try dsimp only at hSw); go_simp; (first | done | with_reducible rfl))
      simp only [Act.put, List.setIfInBounds_toArray, List.set_cons_zero, List.set_cons_succ, List.getElem_toArray, List.getElem_cons_zero]
      refine wpAnyH_take (i := 1) (v := ?v2) rfl (by kernel_rfl) (by kernel_rfl) (by kernel_rfl) (fun _ _ _ h => h) (Or.inl ⟨by rfl, ?hy2⟩) (by assumption) ?rest2
      case hy2 => (intro w hSw; (try dsimp only at hSw); go_simp; (first | done | with_reducible rfl))
      simp only [Act.put, List.setIfInBounds_toArray, List.set_cons_zero, List.set_cons_succ, List.getElem_toArray, List.getElem_cons_zero, List.getElem_cons_succ]
      refine wpAnyH_take (i := 2) (v := ?v3) rfl (by kernel_rfl) (by kernel_rfl) (by kernel_rfl) (fun _ _ _ h => h) (Or.inl ⟨by rfl, ?hy3⟩) (by assumption) ?rest3
      case hy3 => (intro w hSw; (try dsimp only at hSw); go_simp; (first | done | with_reducible rfl))
      simp only [Act.put, List.setIfInBounds_toArray, List.set_cons_zero, List.set_cons_succ, List.getElem_toArray, List.getElem_cons_zero, List.getElem_cons_succ]
      refine wpAnyH_take (i := 3) (v := ?v4) rfl (by kernel_rfl) (by kernel_rfl) (by kernel_rfl) (fun _ _ _ h => h) (Or.inl ⟨by rfl, ?hy4⟩) (by assumption) ?rest4
      case hy4 => (intro w hSw; (try dsimp only at hSw); go_simp; (first | done | with_reducible rfl))
      simp only [Act.put, List.setIfInBounds_toArray, List.set_cons_zero, List.set_cons_succ, List.getElem_toArray, List.getElem_cons_zero, List.getElem_cons_succ]
      refine wpAnyH_take (i := 4) (v := ?v5) rfl (by kernel_rfl) (by kernel_rfl) (by kernel_rfl) (fun _ _ _ h => h) (Or.inl ⟨by rfl, ?hy5⟩) (by assumption) ?rest5
      case hy5 => (intro w hSw; (try dsimp only at hSw); go_simp; (first | done | with_reducible rfl))
      simp only [Act.put, List.setIfInBounds_toArray, List.set_cons_zero, List.set_cons_succ, List.getElem_toArray, List.getElem_cons_zero, List.getElem_cons_succ]
      refine wpAnyH_take (i := 5) (v := ?v6) rfl (by kernel_rfl) (by kernel_rfl) (by kernel_rfl) (fun _ _ _ h => h) (Or.inl ⟨by rfl, ?hy6⟩) (by assumption) ?rest6
      case hy6 => (intro w hSw; (try dsimp only at hSw); go_simp; (first | done | with_reducible rfl))
      simp only [Act.put, List.setIfInBounds_toArray, List.set_cons_zero, List.set_cons_succ, List.getElem_toArray, List.getElem_cons_zero, List.getElem_cons_succ]
      refine wpAnyH_take (i := 6) (v := ?v7) rfl (by kernel_rfl) (by kernel_rfl) (by kernel_rfl) (fun _ _ _ h => h) (Or.inl ⟨by rfl, ?hy7⟩) (by assumption) ?rest7
      case hy7 => (intro w hSw; (try dsimp only at hSw); go_simp; (first | done | with_reducible rfl))
      simp only [Act.put, List.setIfInBounds_toArray, List.set_cons_zero, List.set_cons_succ, List.getElem_toArray, List.getElem_cons_zero, List.getElem_cons_succ]
      refine wpAnyH_take (i := 7) (v := ?v8) rfl (by kernel_rfl) (by kernel_rfl) (by kernel_rfl) (fun _ _ _ h => h) (Or.inl ⟨by rfl, ?hy8⟩) (by assumption) ?rest8
      case hy8 => (intro w hSw; (try dsimp only at hSw); go_simp; (first | done | with_reducible rfl))
      simp only [Act.put, List.setIfInBounds_toArray, List.set_cons_zero, List.set_cons_succ, List.getElem_toArray, List.getElem_cons_zero, List.getElem_cons_succ]
      refine wpAnyH_ready (rs := [8]) (by kernel_rfl) (by simp) ?_
      refine AllReadyH.cons rfl (fun K hK => ?_) AllReadyH.nil
      simp only [List.getElem_toArray, List.getElem_cons_zero, List.getElem_cons_succ]
      go_simp
      go_at_call 14
      refine (HS.out _ bd).mono ?_
      rintro e w8 ⟨rfl, b8⟩
      have B8 := Lib.hid (HBW.out.trans ((below_step bd b8).mono HBW.out.size))
      obtain ⟨h0, h1, h2, h3⟩ := hHeld
      go_wp2_with fail
      refine hK.out _ _ ⟨cell_step b8 h0, cell_step b8 h1, cell_step b8 h2, cell_step b8 h3⟩ (fun hHeld => ?_)
      clear hK K h0 h1 h2 h3
      try simp only [Act.put, List.setIfInBounds_toArray, List.set_cons_zero, List.set_cons_succ, List.getElem_toArray, List.getElem_cons_zero, List.getElem_cons_succ]
      refine wpAnyH_take (i := 9) (v := ?v9) rfl (by kernel_rfl) (by kernel_rfl) (by kernel_rfl) (fun _ _ _ h => h) (Or.inl ⟨by rfl, ?hy9⟩) (by assumption) ?rest9
      case hy9 => (intro w hSw; (try dsimp only at hSw); go_simp; (first | done | with_reducible rfl))
      simp only [Act.put, List.setIfInBounds_toArray, List.set_cons_zero, List.set_cons_succ, List.getElem_toArray, List.getElem_cons_zero, List.getElem_cons_succ]
      refine wpAnyH_done (by kernel_rfl) ?_ _
      clear hHeld c10 c11 c20 c21
      go_wp2_with fail
      refine ⟨⟨k + 1, by omega, by go_num, B8.out⟩, ?_⟩
      show l.length - ((k : Int) + 1).toNat < l.length - ((k : Int)).toNat
      omega
    · have hk' : k = l.length := by omega
      subst hk'
      have HBW := Lib.hid bw
      clear bw
      go_wp2_with fail
      go_ret
      exact ⟨rfl, HBW.out⟩
theorem walk_runs_no1 (rate mom q : Int) (p m v : Value) (zp zm : List Int) (gs : List (List Int)) (hr : Word rate) (ho : Word mom) (wp_ : ∀ z ∈ zp, Word z) (wm_ : ∀ z ∈ zm, Word z) (w : World) (hp : zp.length ≤ maxLen) (hm : zm.length ≤ maxLen) (hgs : gs.length ≤ maxLen) (hge : ∀ zs ∈ gs, zs.length ≤ maxLen) (ip : IntsW .i64 w.heap.size w p zp) (im : IntsW .i64 w.heap.size w m zm) (hv : RowsAt .i64 w.heap.size w v gs) (hf : fewB [zp, zm, []] = false) :
    Calls Try.prog 6 #[.agg #[.int .i64 rate, .int .i64 mom, .int .i64 q], .agg #[p, m], v] w fun e w' => e = .returned (.bool true) ∧ Below w.heap.size w w' := by
  have BA := (Below.refl w.heap.size w).alloc (Nat.le_refl _) (.cells #[.int .i64 rate, .int .i64 mom, .int .i64 q] 23)
  have r012 := cells_three w (.int .i64 rate) (.int .i64 mom) (.int .i64 q) 23
  obtain ⟨a1, c1, rfl⟩ := ip.value
  obtain ⟨a2, c2, rfl⟩ := im.value
  have hzA : (w.alloc (.cells #[.int .i64 rate, .int .i64 mom, .int .i64 q] 23)).heap.size = w.heap.size + 1 := by simp
  have BB := (Below.refl (w.alloc (.cells #[.int .i64 rate, .int .i64 mom, .int .i64 q] 23)).heap.size (w.alloc (.cells #[.int .i64 rate, .int .i64 mom, .int .i64 q] 23))).alloc (Nat.le_refl _) (.cells #[.slice a1 zp.length c1, .slice a2 zm.length c2] 26)
  have s01 := cells_two (w.alloc (.cells #[.int .i64 rate, .int .i64 mom, .int .i64 q] 23)) (.slice a1 zp.length c1) (.slice a2 zm.length c2) 26
  have r0 := cell_step BB r012.1
  have r1 := cell_step BB r012.2.1
  have r2 := cell_step BB r012.2.2
  rw [hzA] at s01
  have s0 := s01.1
  have s1 := s01.2
  have AL := BA.trans (BB.mono (by omega))
  have HF := Lib.hid (fun W (b : Below w.heap.size w W) => few3_any (.slice a1 zp.length c1) (.slice a2 zm.length c2) (.slice none 0 0) zp zm [] hp hm (by simp) W (ip.later b) (im.later b) (.inr IntsAt.nil))
  have HF2 := Lib.hid (fun W (b : Below w.heap.size w W) => few_any v gs hgs hge W.heap.size W (hv.later b))
  have HIN := Lib.hid (And.intro ip (And.intro im hv))
  obtain ⟨a3, c3, rfl⟩ := hv.value
  clear BA BB r012 s01 hzA ip im hv
  rw [hf] at HF
  clear hf HF2 HIN r0 r1 r2 s0 s1
  go_enter Try.func6, Try.ntmps6
  go_wp2_with fail
  generalize ((w.alloc (.cells #[.int .i64 rate, .int .i64 mom, .int .i64 q] 23)).alloc (.cells #[.slice a1 zp.length c1, .slice a2 zm.length c2] 26)) = W0 at *
  refine (HF.out _ AL).mono ?_
  rintro e w1 ⟨rfl, b1⟩
  have B1 := below_step AL b1
  go_wp2_with fail
  refine (alive_any _).mono ?_
  rintro e w2 ⟨rfl, b2⟩
  have B2 := below_step B1 b2
  go_wp2_with fail
  go_ret
  exact ⟨rfl, B2⟩
theorem walk_runs_no2 (rate mom q : Int) (p m v : Value) (zp zm : List Int) (gs : List (List Int)) (hr : Word rate) (ho : Word mom) (wp_ : ∀ z ∈ zp, Word z) (wm_ : ∀ z ∈ zm, Word z) (w : World) (hp : zp.length ≤ maxLen) (hm : zm.length ≤ maxLen) (hgs : gs.length ≤ maxLen) (hge : ∀ zs ∈ gs, zs.length ≤ maxLen) (ip : IntsW .i64 w.heap.size w p zp) (im : IntsW .i64 w.heap.size w m zm) (hv : RowsAt .i64 w.heap.size w v gs) (hf : fewB [zp, zm, []] = true) (hf2 : fewB gs = false) :
    Calls Try.prog 6 #[.agg #[.int .i64 rate, .int .i64 mom, .int .i64 q], .agg #[p, m], v] w fun e w' => e = .returned (.bool true) ∧ Below w.heap.size w w' := by
  have BA := (Below.refl w.heap.size w).alloc (Nat.le_refl _) (.cells #[.int .i64 rate, .int .i64 mom, .int .i64 q] 23)
  have r012 := cells_three w (.int .i64 rate) (.int .i64 mom) (.int .i64 q) 23
  obtain ⟨a1, c1, rfl⟩ := ip.value
  obtain ⟨a2, c2, rfl⟩ := im.value
  have hzA : (w.alloc (.cells #[.int .i64 rate, .int .i64 mom, .int .i64 q] 23)).heap.size = w.heap.size + 1 := by simp
  have BB := (Below.refl (w.alloc (.cells #[.int .i64 rate, .int .i64 mom, .int .i64 q] 23)).heap.size (w.alloc (.cells #[.int .i64 rate, .int .i64 mom, .int .i64 q] 23))).alloc (Nat.le_refl _) (.cells #[.slice a1 zp.length c1, .slice a2 zm.length c2] 26)
  have s01 := cells_two (w.alloc (.cells #[.int .i64 rate, .int .i64 mom, .int .i64 q] 23)) (.slice a1 zp.length c1) (.slice a2 zm.length c2) 26
  have r0 := cell_step BB r012.1
  have r1 := cell_step BB r012.2.1
  have r2 := cell_step BB r012.2.2
  rw [hzA] at s01
  have s0 := s01.1
  have s1 := s01.2
  have AL := BA.trans (BB.mono (by omega))
  have HF := Lib.hid (fun W (b : Below w.heap.size w W) => few3_any (.slice a1 zp.length c1) (.slice a2 zm.length c2) (.slice none 0 0) zp zm [] hp hm (by simp) W (ip.later b) (im.later b) (.inr IntsAt.nil))
  have HF2 := Lib.hid (fun W (b : Below w.heap.size w W) => few_any v gs hgs hge W.heap.size W (hv.later b))
  have HIN := Lib.hid (And.intro ip (And.intro im hv))
  obtain ⟨a3, c3, rfl⟩ := hv.value
  clear BA BB r012 s01 hzA ip im hv
  rw [hf] at HF
  rw [hf2] at HF2
  clear hf hf2 HIN r0 r1 r2 s0 s1
  go_enter Try.func6, Try.ntmps6
  go_wp2_with fail
  generalize ((w.alloc (.cells #[.int .i64 rate, .int .i64 mom, .int .i64 q] 23)).alloc (.cells #[.slice a1 zp.length c1, .slice a2 zm.length c2] 26)) = W0 at *
  refine (HF.out _ AL).mono ?_
  rintro e w1 ⟨rfl, b1⟩
  have B1 := below_step AL b1
  go_wp2_with fail
  refine (HF2.out _ B1).mono ?_
  rintro e w2 ⟨rfl, rfl⟩
  go_wp2_with fail
  refine (alive_any _).mono ?_
  rintro e w2 ⟨rfl, b2⟩
  have B2 := below_step B1 b2
  go_wp2_with fail
  go_ret
  exact ⟨rfl, B2⟩
set_option maxHeartbeats 8000000 in
theorem walk_runs_yes (rate mom q : Int) (p m v : Value) (zp zm : List Int) (gs : List (List Int)) (hr : Word rate) (ho : Word mom) (wp_ : ∀ z ∈ zp, Word z) (wm_ : ∀ z ∈ zm, Word z) (w : World) (hp : zp.length ≤ maxLen) (hm : zm.length ≤ maxLen) (hgs : gs.length ≤ maxLen) (hge : ∀ zs ∈ gs, zs.length ≤ maxLen) (ip : IntsW .i64 w.heap.size w p zp) (im : IntsW .i64 w.heap.size w m zm) (hv : RowsAt .i64 w.heap.size w v gs) (hp8 : zp.length * 8 ≤ 140737488351232) (hm8 : zm.length * 8 ≤ 140737488351232) (hgl : gs.length ≤ 60) (hg8 : ∀ g ∈ gs, g.length * 8 ≤ 140737488351232) (hf : fewB [zp, zm, []] = true) (hf2 : fewB gs = true) :
    Calls Try.prog 6 #[.agg #[.int .i64 rate, .int .i64 mom, .int .i64 q], .agg #[p, m], v] w fun e w' => e = .returned (.bool true) ∧ Below w.heap.size w w' := by
  have BA := (Below.refl w.heap.size w).alloc (Nat.le_refl _) (.cells #[.int .i64 rate, .int .i64 mom, .int .i64 q] 23)
  have r012 := cells_three w (.int .i64 rate) (.int .i64 mom) (.int .i64 q) 23
  obtain ⟨a1, c1, rfl⟩ := ip.value
  obtain ⟨a2, c2, rfl⟩ := im.value
  have hzA : (w.alloc (.cells #[.int .i64 rate, .int .i64 mom, .int .i64 q] 23)).heap.size = w.heap.size + 1 := by simp
  have BB := (Below.refl (w.alloc (.cells #[.int .i64 rate, .int .i64 mom, .int .i64 q] 23)).heap.size (w.alloc (.cells #[.int .i64 rate, .int .i64 mom, .int .i64 q] 23))).alloc (Nat.le_refl _) (.cells #[.slice a1 zp.length c1, .slice a2 zm.length c2] 26)
  have s01 := cells_two (w.alloc (.cells #[.int .i64 rate, .int .i64 mom, .int .i64 q] 23)) (.slice a1 zp.length c1) (.slice a2 zm.length c2) 26
  have r0 := cell_step BB r012.1
  have r1 := cell_step BB r012.2.1
  have r2 := cell_step BB r012.2.2
  rw [hzA] at s01
  have s0 := s01.1
  have s1 := s01.2
  have AL := BA.trans (BB.mono (by omega))
  have HF := Lib.hid (fun W (b : Below w.heap.size w W) => few3_any (.slice a1 zp.length c1) (.slice a2 zm.length c2) (.slice none 0 0) zp zm [] hp hm (by simp) W (ip.later b) (im.later b) (.inr IntsAt.nil))
  have HF2 := Lib.hid (fun W (b : Below w.heap.size w W) => few_any v gs hgs hge W.heap.size W (hv.later b))
  have HIN := Lib.hid (And.intro ip (And.intro im hv))
  obtain ⟨a3, c3, rfl⟩ := hv.value
  clear BA BB r012 s01 hzA ip im hv
  rw [hf] at HF
  rw [hf2] at HF2
  have hF : Fine (zp, zm) := ⟨wp_, wm_, hp8, hm8⟩
  have HGV := Lib.hid (fun W (b : Below w.heap.size w W) => given13_any (.slice a1 zp.length c1) (.slice a2 zm.length c2) zp zm hp8 hm8 W (HIN.out.1.later b) (HIN.out.2.1.later b))
  have HRR := Lib.hid (fun W (b : Below w.heap.size w W) => refRun_any rate mom q hr ho (.slice a1 zp.length c1) (.slice a2 zm.length c2) (.slice a3 gs.length c3) zp zm gs hF (by omega) hg8 W (HIN.out.1.later b) (HIN.out.2.1.later b) (HIN.out.2.2.later b))
  have HRN := Lib.hid (fun W p' m' v' (ip' : IntsAt .i64 W.heap.size W p' zp) (im' : IntsAt .i64 W.heap.size W m' zm) (hv' : RowsAt .i64 W.heap.size W v' gs) => run_any rate mom q hr ho p' m' v' zp zm gs hF (by omega) hg8 W ip' im' hv')
  have HFR := Lib.hid (runR_fine rate mom q gs (zp, zm) hF)
  clear hf hf2 hF
  go_enter Try.func6, Try.ntmps6
  go_wp2_with fail
  generalize ((w.alloc (.cells #[.int .i64 rate, .int .i64 mom, .int .i64 q] 23)).alloc (.cells #[.slice a1 zp.length c1, .slice a2 zm.length c2] 26)) = W0 at *
  refine (HF.out _ AL).mono ?_
  rintro e w1 ⟨rfl, b1⟩
  have B1 := below_step AL b1
  have r0 := cell_step b1 r0
  have r1 := cell_step b1 r1
  have r2 := cell_step b1 r2
  have s0 := cell_step b1 s0
  have s1 := cell_step b1 s1
  go_wp2_with fail
  refine (HF2.out _ B1).mono ?_
  rintro e w2 ⟨rfl, rfl⟩
  go_wp2_with fail
  go_loopw [7, 9, 28] (fun o _ i wr => ∃ k : Nat, k ≤ gs.length ∧ i = .int .i64 k ∧ OwnRows w1.heap.size w1.heap.size wr o (gs.take k) ∧ Below w1.heap.size w1 wr) (fun _ _ i _ => gs.length - (intOf i).toNat)
  case atStart => exact ⟨0, Nat.zero_le _, rfl, ⟨[], rfl, World.ownsRow_nil _ _ _ _, fun j x zs hx => by simp at hx⟩, Below.refl _ _⟩
  case round =>
    obtain ⟨k, hk, rfl, ⟨rs, hrl, ho_, hr_⟩, hB⟩ := hrel
    by_cases hlt : k < gs.length
    · rcases HIN.out.2.2.form with ⟨_, e0⟩ | ⟨b, off, c', e0, hcap, hg, hcs⟩
      · rw [e0] at hlt; simp at hlt
      cases e0
      obtain ⟨ra, rc, hc, hI⟩ := hcs k hlt
      have hBB := B1.trans (hB.mono B1.size)
      have hc := (hBB.cell (p := ⟨b, off + k, none⟩) hg).trans hc
      have hI := (hI.below hBB)
      have hz : gs[k]? = some (gs[k]?.getD []) := by rw [List.getElem?_eq_getElem hlt]; rfl
      have hlk : (gs.take k).length = k := by rw [List.length_take]; omega
      rw [hlk] at ho_ hrl
      have HO := Lib.hid ho_
      have HI := Lib.hid hI
      have HR := Lib.hid hr_
      have HZ := Lib.hid hz
      have HB := Lib.hid hB
      clear hcs ho_ hI hr_ hz hlk hBB r0 r1 r2 s0 s1
      generalize gs[k]?.getD [] = y at *
      have hz1 : w1.heap.size ≤ wr.heap.size := hB.size
      go_wp2_with (at_builtin; go_loud (refine append_one elemVV rfl _ _ rfl rfl rfl HO.out rfl ?_ ?_ ?_ ?_ ?_; (simp [Value.oneCell']); (unfold maxLen; omega); omega; (exact hB.size); intro v' w' ho' hg'; have hg2 := Lib.hid hg'; clear hg'; have HO' := Lib.hid ho'; clear ho'))
      have hBw := (Below.refl w1.heap.size wr).grown hg2.out hB.size (fun k e => (HO.out.lt k e).1)
      refine ⟨⟨k + 1, by omega, by go_num, ⟨rs ++ [(ra, y.length, rc)], by simp [hrl]; omega, ?_, ?_⟩, hB.trans hBw⟩, ?_⟩
      · rw [show (gs.take (k + 1)).length = k + 1 by rw [List.length_take]; omega, List.map_append]
        exact HO'.out
      · intro j x zs hx hzs
        rw [List.take_add_one, HZ.out] at hzs
        by_cases hj : j < k
        · rw [List.getElem?_append_left (by omega)] at hx
          rw [List.getElem?_append_left (by rw [List.length_take]; omega)] at hzs
          exact (HR.out j x zs hx hzs).below hBw
        · have hjk : j = k := by
            have h1 := (List.getElem?_eq_some_iff.1 hx).1
            simp at h1; omega
          subst hjk
          rw [List.getElem?_append_right (by omega)] at hx
          rw [List.getElem?_append_right (by rw [List.length_take]; omega)] at hzs
          rw [hrl, Nat.sub_self] at hx
          rw [show (gs.take j).length = j by rw [List.length_take]; omega, Nat.sub_self] at hzs
          simp at hx hzs
          subst hx hzs
          exact (HI.out.grow (by have := B1.size; omega)).below hBw
      · show gs.length - ((k : Int) + 1).toNat < gs.length - ((k : Int)).toNat
        omega
    · have hk' : k = gs.length := by omega
      subst hk'
      rw [List.take_of_length_le (Nat.le_refl _)] at ho_ hrl hr_
      obtain ⟨oa, oc, rfl⟩ := own_value ho_
      have HRW := Lib.hid (fun W (b : Below wr.heap.size wr W) => (OwnRows.rows (n₀ := w1.heap.size) ⟨rs, hrl, ho_, hr_⟩ hB.size).later b)
      have BW := B1.trans (hB.mono B1.size)
      have r0 := cell_step hB r0
      have r1 := cell_step hB r1
      have r2 := cell_step hB r2
      have s0 := cell_step hB s0
      have s1 := cell_step hB s1
      have B00 := (Below.refl wr.heap.size wr).drew
      clear ho_ hrl hr_ hB
      go_wp2_with fail
      refine wp_region_held_drew (S := fun w' => w'.cell? ⟨w.heap.size, 0, none⟩ = some (.int .i64 rate) ∧ w'.cell? ⟨w.heap.size, 1, none⟩ = some (.int .i64 mom) ∧ w'.cell? ⟨w.heap.size, 2, none⟩ = some (.int .i64 q) ∧ w'.cell? ⟨w.heap.size + 1, 0, none⟩ = some (.slice a1 zp.length c1) ∧ w'.cell? ⟨w.heap.size + 1, 1, none⟩ = some (.slice a2 zm.length c2) ∧ Below wr.heap.size wr w') (by kernel_rfl) ?_ (fun hHeld => ?_)
      · exact ⟨cell_step B00 r0, cell_step B00 r1, cell_step B00 r2, cell_step B00 s0, cell_step B00 s1, B00⟩
      refine wpAnyH_take (i := 0) (v := ?v10) rfl (by kernel_rfl) (by kernel_rfl) (by kernel_rfl) (fun _ _ _ h => h) (Or.inl ⟨by rfl, ?hy10⟩) (by assumption) ?rest10
      case hy10 => (intro w hSw; (try dsimp only at hSw); go_simp; (first | done | with_reducible rfl))
      simp only [Act.put, List.setIfInBounds_toArray, List.set_cons_zero, List.set_cons_succ, List.getElem_toArray, List.getElem_cons_zero]
      refine wpAnyH_take (i := 1) (v := ?v11) rfl (by kernel_rfl) (by kernel_rfl) (by kernel_rfl) (fun _ _ _ h => h) (Or.inl ⟨by rfl, ?hy11⟩) (by assumption) ?rest11
      case hy11 => (intro w hSw; (try dsimp only at hSw); go_simp; (first | done | with_reducible rfl))
      simp only [Act.put, List.setIfInBounds_toArray, List.set_cons_zero, List.set_cons_succ, List.getElem_toArray, List.getElem_cons_zero, List.getElem_cons_succ]
      refine wpAnyH_take (i := 3) (v := ?v12) rfl (by kernel_rfl) (by kernel_rfl) (by kernel_rfl) (fun _ _ _ h => h) (Or.inl ⟨by rfl, ?hy12⟩) (by assumption) ?rest12
      case hy12 => (intro w hSw; (try dsimp only at hSw); go_simp; (first | done | with_reducible rfl))
      simp only [Act.put, List.setIfInBounds_toArray, List.set_cons_zero, List.set_cons_succ, List.getElem_toArray, List.getElem_cons_zero, List.getElem_cons_succ]
      refine wpAnyH_ready (rs := [2]) (by kernel_rfl) (by simp) ?_
      refine AllReadyH.cons rfl (fun K hK => ?_) AllReadyH.nil
      simp only [List.getElem_toArray, List.getElem_cons_zero, List.getElem_cons_succ]
      go_simp
      go_at_call 10
      refine (HGV.out _ (BW.trans (B00.mono BW.size))).mono ?_
      rintro e w4 ⟨v4, rfl, ⟨vp, vm, rfl, op, om⟩, b4⟩
      obtain ⟨ap, cp, rfl⟩ := own_value op
      obtain ⟨am, cm, rfl⟩ := own_value om
      have B4 := below_step B00 b4
      have HR := Lib.hid (HRN.out w4 _ _ _ (ints_own op) (ints_own om) (HRW.out w4 B4))
      clear op om
      go_wp2_with fail
      refine hK.out _ _ ⟨cell_step B4 r0, cell_step B4 r1, cell_step B4 r2, cell_step B4 s0, cell_step B4 s1, B4⟩ (fun hHeld => ?_)
      clear hK K
      try simp only [Act.put, List.setIfInBounds_toArray, List.set_cons_zero, List.set_cons_succ, List.getElem_toArray, List.getElem_cons_zero, List.getElem_cons_succ]
      refine wpAnyH_ready (rs := [4]) (by kernel_rfl) (by simp) ?_
      refine AllReadyH.cons rfl (fun K hK => ?_) AllReadyH.nil
      simp only [List.getElem_toArray, List.getElem_cons_zero, List.getElem_cons_succ]
      go_simp
      go_at_call 23
      refine HR.out.mono ?_
      rintro e w5 ⟨vx, us, rfl, ox, sx, b5⟩
      obtain ⟨L, hL⟩ : ∃ L, L = runR rate mom q (zp, zm) gs := ⟨_, rfl⟩
      rw [← hL] at ox sx
      have HL := Lib.hid hL
      clear hL
      obtain ⟨xa, xc, rfl⟩ := own_value ox
      have B5 := below_step B4 b5
      have HOX := Lib.hid (And.intro ox sx)
      clear ox sx HR
      go_wp2_with fail
      refine hK.out _ _ ⟨cell_step B5 r0, cell_step B5 r1, cell_step B5 r2, cell_step B5 s0, cell_step B5 s1, B5⟩ (fun hHeld => ?_)
      clear hK K
      try simp only [Act.put, List.setIfInBounds_toArray, List.set_cons_zero, List.set_cons_succ, List.getElem_toArray, List.getElem_cons_zero, List.getElem_cons_succ]
      refine wpAnyH_take (i := 5) (v := ?v13) rfl (by kernel_rfl) (by kernel_rfl) (by kernel_rfl) (fun _ _ _ h => h) (Or.inl ⟨by rfl, ?hy13⟩) (by assumption) ?rest13
      case hy13 => (intro w hSw; (try dsimp only at hSw); go_simp; (first | done | with_reducible rfl))
      simp only [Act.put, List.setIfInBounds_toArray, List.set_cons_zero, List.set_cons_succ, List.getElem_toArray, List.getElem_cons_zero, List.getElem_cons_succ]
      refine wpAnyH_take (i := 6) (v := ?v14) rfl (by kernel_rfl) (by kernel_rfl) (by kernel_rfl) (fun _ _ _ h => h) (Or.inl ⟨by rfl, ?hy14⟩) (by assumption) ?rest14
      case hy14 => (intro w hSw; (try dsimp only at hSw); go_simp; (first | done | with_reducible rfl))
      simp only [Act.put, List.setIfInBounds_toArray, List.set_cons_zero, List.set_cons_succ, List.getElem_toArray, List.getElem_cons_zero, List.getElem_cons_succ]
      refine wpAnyH_take (i := 7) (v := ?v15) rfl (by kernel_rfl) (by kernel_rfl) (by kernel_rfl) (fun _ _ _ h => h) (Or.inl ⟨by rfl, ?hy15⟩) (by assumption) ?rest15
      case hy15 => (intro w hSw; (try dsimp only at hSw); go_simp; (first | done | with_reducible rfl))
      simp only [Act.put, List.setIfInBounds_toArray, List.set_cons_zero, List.set_cons_succ, List.getElem_toArray, List.getElem_cons_zero, List.getElem_cons_succ]
      refine wpAnyH_take (i := 8) (v := ?v16) rfl (by kernel_rfl) (by kernel_rfl) (by kernel_rfl) (fun _ _ _ h => h) (Or.inl ⟨by rfl, ?hy16⟩) (by assumption) ?rest16
      case hy16 => (intro w hSw; (try dsimp only at hSw); go_simp; (first | done | with_reducible rfl))
      simp only [Act.put, List.setIfInBounds_toArray, List.set_cons_zero, List.set_cons_succ, List.getElem_toArray, List.getElem_cons_zero, List.getElem_cons_succ]
      refine wpAnyH_take (i := 9) (v := ?v17) rfl (by kernel_rfl) (by kernel_rfl) (by kernel_rfl) (fun _ _ _ h => h) (Or.inl ⟨by rfl, ?hy17⟩) (by assumption) ?rest17
      case hy17 => (intro w hSw; (try dsimp only at hSw); go_simp; (first | done | with_reducible rfl))
      simp only [Act.put, List.setIfInBounds_toArray, List.set_cons_zero, List.set_cons_succ, List.getElem_toArray, List.getElem_cons_zero, List.getElem_cons_succ]
      refine wpAnyH_done (by kernel_rfl) ?_ _
      clear hHeld
      have BW5 := BW.trans (B5.mono BW.size)
      have r0 := cell_step B5 r0
      have r1 := cell_step B5 r1
      have r2 := cell_step B5 r2
      have s0 := cell_step B5 s0
      have s1 := cell_step B5 s1
      clear B00 B4 B5 b4 b5
      go_wp2_with fail
      refine (HRR.out _ BW5).mono ?_
      rintro e w6 ⟨vy, vs, rfl, oy, sy, b6⟩
      rw [← HL.out] at oy sy
      obtain ⟨ya, yc, rfl⟩ := own_value oy
      have BW6 := below_step BW5 b6
      have ox := own_below HOX.out.1 b6
      have sx := HOX.out.2.later b6
      have hLl : L.length ≤ 60 := by
        rw [HL.out]
        unfold runR
        split
        · rw [runL_length]; omega
        · simp
      have HALL := Lib.hid (And.intro ox (And.intro sx (And.intro oy sy)))
      generalize runB rate mom q (zp, zm) gs = okb at *
      clear ox sx oy sy r0 r1 r2 s0 s1 b6 BW BW5
      go_wp2_with fail
      go_loopw [14, 16, 54] (fun o _ i wr => ∃ k : Nat, k ≤ L.length ∧ i = .int .i64 k ∧ wr.ownsRow w6.heap.size 26 2 o k (stc (us.take k)) ∧ Below w6.heap.size w6 wr) (fun _ _ i _ => L.length - (intOf i).toNat)
      case atStart => exact ⟨0, Nat.zero_le _, rfl, World.ownsRow_nil _ _ _ _, Below.refl _ _⟩
      case round =>
        obtain ⟨k, hk, rfl, oo, bq⟩ := hrel
        obtain ⟨ox, sx, oy, sy⟩ := HALL.out
        obtain ⟨pa, pc, rfl⟩ := own_value oo
        by_cases hlt : k < L.length
        · obtain ⟨g1, d1, e0, hg1, hg1'⟩ := own_some ox (by omega)
          cases e0
          obtain ⟨z, hz⟩ : ∃ z, L[k]? = some z := ⟨_, List.getElem?_eq_getElem hlt⟩
          obtain ⟨x, hx⟩ : ∃ x, us[k]? = some x := ⟨_, List.getElem?_eq_getElem (show k < us.length by rw [sx.1]; exact hlt)⟩
          have c10 := (bq.cell (p := ⟨g1, k * 2, none⟩) hg1').trans ((ox.cellAt (k * 2) (by omega)).trans (stc_at us k x hx).1)
          have c11 := (bq.cell (p := ⟨g1, k * 2 + 1, none⟩) hg1').trans ((ox.cellAt (k * 2 + 1) (by omega)).trans (stc_at us k x hx).2)
          have ix := sx.2 k x z hx hz
          obtain ⟨x1, x2⟩ := x
          obtain ⟨e1, d1_, rfl⟩ := ix.1.value
          obtain ⟨e2, d2_, rfl⟩ := ix.2.value
          have htk : stc (us.take (k + 1)) = stc (us.take k) ++ [.slice e1 z.1.length d1_, .slice e2 z.2.length d2_] := by
            rw [take_more us k _ hx, stc_append]
            rfl
          have HTK := Lib.hid htk
          generalize z.1.length = n1 at *
          generalize z.2.length = n2 at *
          simp only at c10 c11
          have al := (Below.refl wr.heap.size wr).alloc (Nat.le_refl _) (.cells #[.slice e1 n1 d1_, .slice e2 n2 d2_] 31)
          have y01 := cells_two wr (.slice e1 n1 d1_) (.slice e2 n2 d2_) 31
          have OO := Lib.hid (own_below oo al)
          have BQ := Lib.hid (bq.trans (al.mono bq.size))
          obtain ⟨y0, y1⟩ := y01
          have hzq := bq.size
          clear ox sx oy sy ix hx hz htk oo bq
          go_wp2_with fail
          refine (back_any e1 e2 n1 n2 d1_ d2_ _).mono ?_
          rintro e wb ⟨rfl, bb⟩
          have HO := Lib.hid (own_below OO.out bb)
          have HB := Lib.hid (BQ.out.trans (bb.mono BQ.out.size))
          have hzb : w6.heap.size ≤ wb.heap.size := HB.out.size
          clear y0 y1 c10 c11 al bb
          go_wp2_with (at_builtin; go_loud (refine append_one elemRS rfl _ _ rfl rfl rfl HO.out rfl ?_ ?_ ?_ ?_ ?_; (simp [Value.oneCell']); (unfold maxLen; omega); omega; (exact hzb); intro v' w' ho' hg'; have hg2 := Lib.hid hg'; clear hg'; have HO' := Lib.hid ho'; clear ho'))
          have hBw := HB.out.grown hg2.out hzb (fun j e => (HO.out.lt j e).1)
          refine ⟨⟨k + 1, by omega, by go_num, by rw [HTK.out]; exact HO'.out, hBw⟩, ?_⟩
          show L.length - ((k : Int) + 1).toNat < L.length - ((k : Int)).toNat
          omega
        · have hk' : k = L.length := by omega
          subst hk'
          rw [List.take_of_length_le (by rw [sx.1]; exact Nat.le_refl _)] at oo
          have HSM := Lib.hid (fun W (b : Below wr.heap.size wr W) => sameAll_any (.slice pa L.length pc) (.slice ya L.length yc) L us vs _ _ W (by omega) (by rw [HL.out]; exact HFR.out) (own_below oo b) (own_below (own_below oy bq) b) ((sx.later bq).later b) ((sy.later bq).later b))
          have BF := Lib.hid (BW6.trans (bq.mono BW6.size))
          clear ox sx oy sy oo bq
          go_wp2_with fail
          refine (alive_any _).mono ?_
          rintro e w8 ⟨rfl, b8⟩
          go_wp2_with fail
          refine (HSM.out _ b8).mono ?_
          rintro e w9 ⟨rfl, b9⟩
          have BG := BF.out.trans ((below_step b8 b9).mono BF.out.size)
          go_wp2_with fail
          go_ret
          exact ⟨rfl, BG⟩
theorem walk_runs (rate mom q : Int) (p m v : Value) (zp zm : List Int) (gs : List (List Int)) (hr : Word rate) (ho : Word mom) (wp_ : ∀ z ∈ zp, Word z) (wm_ : ∀ z ∈ zm, Word z) (w : World) (hp : zp.length ≤ maxLen) (hm : zm.length ≤ maxLen) (hgs : gs.length ≤ maxLen) (hge : ∀ zs ∈ gs, zs.length ≤ maxLen) (ip : IntsW .i64 w.heap.size w p zp) (im : IntsW .i64 w.heap.size w m zm) (hv : RowsAt .i64 w.heap.size w v gs) :
    Calls Try.prog 6 #[.agg #[.int .i64 rate, .int .i64 mom, .int .i64 q], .agg #[p, m], v] w fun e w' => e = .returned (.bool true) ∧ Below w.heap.size w w' := by
  cases hf : fewB [zp, zm, []]
  · exact walk_runs_no1 rate mom q p m v zp zm gs hr ho wp_ wm_ w hp hm hgs hge ip im hv hf
  cases hf2 : fewB gs
  · exact walk_runs_no2 rate mom q p m v zp zm gs hr ho wp_ wm_ w hp hm hgs hge ip im hv hf hf2
  have h1 := (fewB_true hf).2 zp (by simp)
  have h2 := (fewB_true hf).2 zm (by simp)
  have h3 := fewB_true hf2
  exact walk_runs_yes rate mom q p m v zp zm gs hr ho wp_ wm_ w hp hm hgs hge ip im hv (by omega) (by omega) h3.1 (fun g hg => by have := h3.2 g hg; omega) hf hf2
end Go.Proofs.Ytmffgbmjomaehaa
