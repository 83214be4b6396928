/- What a step makes: Next. -/
import Derived.Test.YtmffgbmjomaehaaSgdC
namespace Go.Proofs.Ytmffgbmjomaehaa
open Go.RowKit
set_option linter.unusedVariables false
def nextOk (zp zm zg : List Int) : Bool := decide (zp.length = zm.length ∧ zp.length = zg.length)
def NextIs (rate mom q : Int) (zp zm zg : List Int) (w : World) (e : Ending) (w' : World) : Prop :=
  if nextOk zp zm zg then ∃ v, e = .returned (.tuple #[v, .bool true]) ∧ OwnState w.heap.size v (nextP zp (nextM zm zg mom q) rate q) (nextM zm zg mom q) w' ∧ Below w.heap.size w w'
  else e = .returned (.tuple #[.agg #[.slice none 0 0, .slice none 0 0], .bool false]) ∧ Below w.heap.size w w'
theorem own_block_lt {base n : Nat} {e : TypeId} {v : Value} {xs : List Value} {w : World} {size : Nat} (h : w.ownsRow base e size v n xs) {k : Nat} (hk : v.ownBlock = some k) : k < w.heap.size := (h.lt k hk).2
set_option maxHeartbeats 2000000 in
theorem next_no (rate mom q : Int) (p m g : Value) (zp zm zg : List Int) (h : nextOk zp zm zg = false) (w : World) (ip : IntsW .i64 w.heap.size w p zp) (im : IntsW .i64 w.heap.size w m zm) (ig : IntsW .i64 w.heap.size w g zg) :
    Calls Try.prog 12 #[.agg #[.int .i64 rate, .int .i64 mom, .int .i64 q], .agg #[p, m], g] w (NextIs rate mom q zp zm zg w) := by
  obtain ⟨a1, c1, rfl⟩ := ip.value
  obtain ⟨a2, c2, rfl⟩ := im.value
  obtain ⟨a3, c3, rfl⟩ := ig.value
  have HN := Lib.hid h
  have hh : zp.length ≠ zm.length ∨ (zp.length = zm.length ∧ zp.length ≠ zg.length) := by
    unfold nextOk at h
    simp at h
    omega
  have BW : Below w.heap.size w (((w.alloc (.cells #[.int .i64 rate, .int .i64 mom, .int .i64 q] 35)).alloc (.cells #[.slice a1 zp.length c1, .slice a2 zm.length c2] 31)).alloc (.cells #[.slice none 0 0, .slice none 0 0] 31)) :=
    (((Below.refl w.heap.size w).alloc (Nat.le_refl _) _).alloc (by simp) _).alloc (by simp <;> omega) _
  clear h ip im ig
  rcases hh with h1 | ⟨h1, h2⟩
  · have g1 : ((zp.length : Int) != (zm.length : Int)) = true := by simp; omega
    go_enter Try.func12, Try.ntmps12
    go_wp2_with fail
    (try simp only [Exit.inBlock, Exit.then])
    refine bodyPost_ret (v := .tuple #[.agg #[.slice none 0 0, .slice none 0 0], .bool false]) (by simp [results, Try.results12, go_sem]) rfl ?_
    unfold NextIs
    rw [HN.out]
    exact ⟨rfl, BW⟩
  · have g1 : ((zp.length : Int) != (zm.length : Int)) = false := by simp [h1]
    have g2 : ((zp.length : Int) != (zg.length : Int)) = true := by simp; omega
    clear h1 h2
    go_enter Try.func12, Try.ntmps12
    go_wp2_with fail
    (try simp only [Exit.inBlock, Exit.then])
    refine bodyPost_ret (v := .tuple #[.agg #[.slice none 0 0, .slice none 0 0], .bool false]) (by simp [results, Try.results12, go_sem]) rfl ?_
    unfold NextIs
    rw [HN.out]
    exact ⟨rfl, BW⟩
theorem row_apart {w w' : World} {base size n : Nat} {row : Option Nat} {e : TypeId} {v : Value} {xs : List Value} (h : w.ownsRow base e size v n xs) (hg : w.grownBy w' row) (hr : ∀ k, row = some k → v.ownBlock ≠ some k) : w'.ownsRow base e size v n xs := by
  refine h.kept hg ?_
  cases row with
  | none => cases v.ownBlock <;> simp
  | some k => exact .inr (hr k rfl)
theorem cell_apart {w w' : World} {row : Option Nat} {g o : Nat} (h : w.grownBy w' row) (hg : g < w.heap.size) (hne : row ≠ some g) : w'.cell? ⟨g, o, none⟩ = w.cell? ⟨g, o, none⟩ := by
  simp only [World.cell?, h.block g hg (fun e => hne (by cases e; rfl))]
theorem rows_apart {w w2 : World} {b1 b2 n1 n2 s1 s2 : Nat} {e1 e2 : TypeId} {v1 v2 : Value} {xs1 xs2 : List Value} (h1 : w.ownsRow b1 e1 s1 v1 n1 xs1) (h2 : w2.ownsRow b2 e2 s2 v2 n2 xs2) (hb : w.heap.size ≤ b2) : ∀ k, v1.ownBlock = some k → v2.ownBlock ≠ some k := fun k e1 e2 => by
  have := h1.lt k e1
  have := h2.lt k e2
  omega
/-- the state that Next makes: two rows of the call's own, and the cell that holds them -/
structure Mid (N U : Nat) (vp vm : Value) (n m : Nat) (xs ys : List Int) (W0 W : World) : Prop where
  hU : N ≤ U
  lt : U < W.heap.size
  u0 : W.cell? ⟨U, 0, none⟩ = some vp
  u1 : W.cell? ⟨U, 1, none⟩ = some vm
  op : W.ownsRow N 2 1 vp n (xs.map (Value.int .i64))
  om : W.ownsRow N 2 1 vm m (ys.map (Value.int .i64))
  pu : vp.ownBlock ≠ some U
  mu : vm.ownBlock ≠ some U
  pm : ∀ k, vp.ownBlock = some k → vm.ownBlock ≠ some k
  bb : Below N W0 W
theorem Mid.below {N U n m : Nat} {vp vm : Value} {xs ys : List Int} {W0 W W' : World} (h : Mid N U vp vm n m xs ys W0 W) (b : Below W.heap.size W W') : Mid N U vp vm n m xs ys W0 W' :=
  ⟨h.hU, Nat.lt_of_lt_of_le h.lt b.size, cell_step b h.u0, cell_step b h.u1, own_below h.op b, own_below h.om b, h.pu, h.mu, h.pm, h.bb.trans (b.mono (Nat.le_of_lt (Nat.lt_of_le_of_lt h.hU h.lt)))⟩
theorem Mid.addM {N U n m : Nat} {vp vm : Value} {xs ys ys' : List Int} {W0 W W' : World} (h : Mid N U vp vm n m xs ys W0 W) (g : W.grownBy W' vm.ownBlock) (om : W'.ownsRow N 2 1 vm m (ys'.map (Value.int .i64))) : Mid N U vp vm n m xs ys' W0 W' :=
  ⟨h.hU, Nat.lt_of_lt_of_le h.lt g.size, (cell_apart g h.lt h.mu).trans h.u0, (cell_apart g h.lt h.mu).trans h.u1, row_apart h.op g (fun k e e2 => h.pm k e2 e), om, h.pu, h.mu, h.pm, h.bb.grown g (Nat.le_of_lt (Nat.lt_of_le_of_lt h.hU h.lt)) (fun k e => (om.lt k e).1)⟩
theorem Mid.addP {N U n m : Nat} {vp vm : Value} {xs ys xs' : List Int} {W0 W W' : World} (h : Mid N U vp vm n m xs ys W0 W) (g : W.grownBy W' vp.ownBlock) (op : W'.ownsRow N 2 1 vp n (xs'.map (Value.int .i64))) : Mid N U vp vm n m xs' ys W0 W' :=
  ⟨h.hU, Nat.lt_of_lt_of_le h.lt g.size, (cell_apart g h.lt h.pu).trans h.u0, (cell_apart g h.lt h.pu).trans h.u1, op, row_apart h.om g h.pm, h.pu, h.mu, h.pm, h.bb.grown g (Nat.le_of_lt (Nat.lt_of_le_of_lt h.hU h.lt)) (fun k e => (op.lt k e).1)⟩
theorem Mid.made {N U n m : Nat} {vp vm x0 x1 : Value} {xs ys : List Int} {W0 W : World} (hU : N ≤ U) (r0 : W.cell? ⟨U, 0, none⟩ = some x0) (r1 : W.cell? ⟨U, 1, none⟩ = some x1) (f0 : W.frozen? ⟨U, 0, none⟩ = false) (f1 : W.frozen? ⟨U, 1, none⟩ = false) (op : W.ownsRow N 2 1 vp n (xs.map (Value.int .i64))) (om : W.ownsRow N 2 1 vm m (ys.map (Value.int .i64))) (pu : vp.ownBlock ≠ some U) (mu : vm.ownBlock ≠ some U) (pm : ∀ k, vp.ownBlock = some k → vm.ownBlock ≠ some k) (bb : Below N W0 W) : Mid N U vp vm n m xs ys W0 ((W.setCell ⟨U, 0, none⟩ vp).setCell ⟨U, 1, none⟩ vm) := by
  have ST := stored2 vp vm r0 r1 f0 f1
  have G := grown_trans (grown_set W U 0 vp) (grown_set _ U 1 vm)
  have hl := World.block_lt_of_cell? _ _ r0
  exact ⟨hU, Nat.lt_of_lt_of_le hl ST.2.2.2.2.size, ST.1, ST.2.1, row_apart op G (fun k e => by cases e; exact pu), row_apart om G (fun k e => by cases e; exact mu), pu, mu, pm, bb.trans (ST.2.2.2.2.mono hU)⟩
theorem scaleL_length (zs : List Int) (a q : Int) : (scaleL zs a q).length = zs.length := by unfold scaleL; simp
set_option maxHeartbeats 8000000 in
theorem next_yes (rate mom q : Int) (hr : Word rate) (ho : Word mom) (p m g : Value) (zp zm zg : List Int) (wp_ : ∀ z ∈ zp, Word z) (wm_ : ∀ z ∈ zm, Word z) (hp : zp.length * 8 ≤ 140737488351232) (hm : zm.length * 8 ≤ 140737488351232) (hg : zg.length * 8 ≤ 140737488351232) (h : nextOk zp zm zg = true) (w : World) (ip : IntsW .i64 w.heap.size w p zp) (im : IntsW .i64 w.heap.size w m zm) (im' : IntsAt .i64 w.heap.size w m zm) (ig : IntsW .i64 w.heap.size w g zg) :
    Calls Try.prog 12 #[.agg #[.int .i64 rate, .int .i64 mom, .int .i64 q], .agg #[p, m], g] w (NextIs rate mom q zp zm zg w) := by
  have HCl := Lib.hid (fun W (h : Below w.heap.size w W) => vclone_w p zp hp w.heap.size W h.size (ip.below h))
  have HSc := Lib.hid (fun W (h : Below w.heap.size w W) => scale_any m zm mom q ho wm_ hm W (im'.later h))
  have HIG := Lib.hid ig
  obtain ⟨a1, c1, rfl⟩ := ip.value
  obtain ⟨a2, c2, rfl⟩ := im.value
  obtain ⟨a3, c3, rfl⟩ := ig.value
  have HN := Lib.hid h
  have hh : zp.length = zm.length ∧ zp.length = zg.length := by
    unfold nextOk at h
    simpa using h
  have HL := Lib.hid hh
  have hl1 : zm.length ≤ zp.length ∧ zp.length ≤ zm.length ∧ zg.length ≤ zp.length ∧ zp.length ≤ zg.length := by omega
  have g1 : ((zp.length : Int) != (zm.length : Int)) = false := by simp [hh.1]
  have g2 : ((zp.length : Int) != (zg.length : Int)) = false := by simp [hh.2]
  obtain ⟨l1, l2, l3, l4⟩ := hl1
  have BA := (Below.refl w.heap.size w).alloc (Nat.le_refl _) (.cells #[.int .i64 rate, .int .i64 mom, .int .i64 q] 35)
  obtain ⟨WA, hWA⟩ : ∃ WA, WA = w.alloc (.cells #[.int .i64 rate, .int .i64 mom, .int .i64 q] 35) := ⟨_, rfl⟩
  have r0 := cell_new w #[.int .i64 rate, .int .i64 mom, .int .i64 q] 35 0
  have r1 := cell_new w #[.int .i64 rate, .int .i64 mom, .int .i64 q] 35 1
  have r2 := cell_new w #[.int .i64 rate, .int .i64 mom, .int .i64 q] 35 2
  simp only [List.getElem?_toArray, List.getElem?_cons_zero, List.getElem?_cons_succ] at r0 r1 r2
  have hzA : WA.heap.size = w.heap.size + 1 := by rw [hWA]; simp
  rw [← hWA] at r0 r1 r2 BA
  have BB := (Below.refl WA.heap.size WA).alloc (Nat.le_refl _) (.cells #[.slice a1 zp.length c1, .slice a2 zm.length c2] 31)
  have s01 := cells_two WA (.slice a1 zp.length c1) (.slice a2 zm.length c2) 31
  obtain ⟨WB, hWB⟩ : ∃ WB, WB = WA.alloc (.cells #[.slice a1 zp.length c1, .slice a2 zm.length c2] 31) := ⟨_, rfl⟩
  have hzB : WB.heap.size = w.heap.size + 2 := by rw [hWB]; simp [hzA]
  rw [← hWB] at s01 BB
  have BC := (Below.refl WB.heap.size WB).alloc (Nat.le_refl _) (.cells #[.slice none 0 0, .slice none 0 0] 31)
  have q01 := cells_two WB (.slice none 0 0) (.slice none 0 0) 31
  have qf := World.frozen?_alloc_new WB #[.slice none 0 0, .slice none 0 0] 31
  have hzC : (WB.alloc (.cells #[.slice none 0 0, .slice none 0 0] 31)).heap.size = w.heap.size + 3 := by simp [hzB]
  have r0 := cell_step BC (cell_step BB r0)
  have r1 := cell_step BC (cell_step BB r1)
  have r2 := cell_step BC (cell_step BB r2)
  have s0 := cell_step BC s01.1
  have s1 := cell_step BC s01.2
  have q0 := q01.1
  have q1 := q01.2
  have qf0 := qf 0
  have qf1 := qf 1
  have AL := (BA.trans (BB.mono (by omega))).trans (BC.mono (by omega))
  rw [hzA] at s0 s1
  rw [hzB] at q0 q1 qf0 qf1
  subst hWB
  subst hWA
  clear BA BB BC s01 q01 qf hzA hzB h hh ip im im' ig
  go_enter Try.func12, Try.ntmps12
  go_wp2_with fail
  generalize (((w.alloc (.cells #[.int .i64 rate, .int .i64 mom, .int .i64 q] 35)).alloc (.cells #[.slice a1 zp.length c1, .slice a2 zm.length c2] 31)).alloc (.cells #[.slice none 0 0, .slice none 0 0] 31)) = W0 at *
  generalize hN : w.heap.size = NN at *
  clear g1 g2
  refine wp_region_held_drew (S := fun w' => w'.cell? ⟨NN, 0, none⟩ = some (.int .i64 rate) ∧ w'.cell? ⟨NN, 1, none⟩ = some (.int .i64 mom) ∧ w'.cell? ⟨NN, 2, none⟩ = some (.int .i64 q) ∧ w'.cell? ⟨NN + 1, 0, none⟩ = some (.slice a1 zp.length c1) ∧ w'.cell? ⟨NN + 1, 1, none⟩ = some (.slice a2 zm.length c2) ∧ Below W0.heap.size W0 w') (by kernel_rfl) ?_ (fun hHeld => ?_)
  · exact ⟨r0, r1, r2, s0, s1, (Below.refl _ _).drew⟩
  refine wpAnyH_take (i := 0) (v := ?v1) rfl (by kernel_rfl) (by kernel_rfl) (by kernel_rfl) (fun _ _ _ h => h) (Or.inl ⟨by rfl, ?hy1⟩) (by assumption) ?rest1
  case hy1 => (intro w hSw; (try dsimp only at hSw); go_simp; (first | done | with_reducible rfl))
  simp only [Act.put, List.setIfInBounds_toArray, List.set_cons_zero, List.set_cons_succ, List.getElem_toArray, List.getElem_cons_zero]
  refine wpAnyH_take (i := 1) (v := ?v2) rfl (by kernel_rfl) (by kernel_rfl) (by kernel_rfl) (fun _ _ _ h => h) (Or.inl ⟨by rfl, ?hy2⟩) (by assumption) ?rest2
  case hy2 => (intro w hSw; (try dsimp only at hSw); go_simp; (first | done | with_reducible rfl))
  simp only [Act.put, List.setIfInBounds_toArray, List.set_cons_zero, List.set_cons_succ, List.getElem_toArray, List.getElem_cons_zero, List.getElem_cons_succ]
  refine wpAnyH_take (i := 3) (v := ?v3) rfl (by kernel_rfl) (by kernel_rfl) (by kernel_rfl) (fun _ _ _ h => h) (Or.inl ⟨by rfl, ?hy3⟩) (by assumption) ?rest3
  case hy3 => (intro w hSw; (try dsimp only at hSw); go_simp; (first | done | with_reducible rfl))
  simp only [Act.put, List.setIfInBounds_toArray, List.set_cons_zero, List.set_cons_succ, List.getElem_toArray, List.getElem_cons_zero, List.getElem_cons_succ]
  refine wpAnyH_take (i := 4) (v := ?v4) rfl (by kernel_rfl) (by kernel_rfl) (by kernel_rfl) (fun _ _ _ h => h) (Or.inl ⟨by rfl, ?hy4⟩) (by assumption) ?rest4
  case hy4 => (intro w hSw; (try dsimp only at hSw); go_simp; (first | done | with_reducible rfl))
  simp only [Act.put, List.setIfInBounds_toArray, List.set_cons_zero, List.set_cons_succ, List.getElem_toArray, List.getElem_cons_zero, List.getElem_cons_succ]
  refine wpAnyH_take (i := 5) (v := ?v5) rfl (by kernel_rfl) (by kernel_rfl) (by kernel_rfl) (fun _ _ _ h => h) (Or.inl ⟨by rfl, ?hy5⟩) (by assumption) ?rest5
  case hy5 => (intro w hSw; (try dsimp only at hSw); go_simp; (first | done | with_reducible rfl))
  simp only [Act.put, List.setIfInBounds_toArray, List.set_cons_zero, List.set_cons_succ, List.getElem_toArray, List.getElem_cons_zero, List.getElem_cons_succ]
  refine wpAnyH_take (i := 6) (v := ?v6) rfl (by kernel_rfl) (by kernel_rfl) (by kernel_rfl) (fun _ _ _ h => h) (Or.inl ⟨by rfl, ?hy6⟩) (by assumption) ?rest6
  case hy6 => (intro w hSw; (try dsimp only at hSw); go_simp; (first | done | with_reducible rfl))
  simp only [Act.put, List.setIfInBounds_toArray, List.set_cons_zero, List.set_cons_succ, List.getElem_toArray, List.getElem_cons_zero, List.getElem_cons_succ]
  refine wpAnyH_take (i := 7) (v := ?v7) rfl (by kernel_rfl) (by kernel_rfl) (by kernel_rfl) (fun _ _ _ h => h) (Or.inl ⟨by rfl, ?hy7⟩) (by assumption) ?rest7
  case hy7 => (intro w hSw; (try dsimp only at hSw); go_simp; (first | done | with_reducible rfl))
  simp only [Act.put, List.setIfInBounds_toArray, List.set_cons_zero, List.set_cons_succ, List.getElem_toArray, List.getElem_cons_zero, List.getElem_cons_succ]
  refine wpAnyH_take (i := 8) (v := ?v8) rfl (by kernel_rfl) (by kernel_rfl) (by kernel_rfl) (fun _ _ _ h => h) (Or.inl ⟨by rfl, ?hy8⟩) (by assumption) ?rest8
  case hy8 => (intro w hSw; (try dsimp only at hSw); go_simp; (first | done | with_reducible rfl))
  simp only [Act.put, List.setIfInBounds_toArray, List.set_cons_zero, List.set_cons_succ, List.getElem_toArray, List.getElem_cons_zero, List.getElem_cons_succ]
  have B00 := (Below.refl W0.heap.size W0).drew
  refine wpAnyH_ready (rs := [2, 11]) (by kernel_rfl) (by simp) ?_
  refine AllReadyH.cons rfl (fun K hK => ?_) ?_
  · try simp only [Act.put, List.setIfInBounds_toArray, List.set_cons_zero, List.set_cons_succ, List.getElem_toArray, List.getElem_cons_zero, List.getElem_cons_succ]
    go_simp
    go_at_call 27
    refine (HCl.out _ (AL.trans (B00.mono (by omega)))).mono ?_
    rintro e w5 ⟨vp, rfl, op, b5⟩
    have BW5 := below_step B00 b5
    obtain ⟨ap, cp, rfl⟩ := own_value op
    have OP := Lib.hid op
    clear op
    go_wp2_with fail
    obtain ⟨h0, h1, h2, h3, h4, h5⟩ := hHeld
    refine hK.out _ _ ⟨cell_step b5 h0, cell_step b5 h1, cell_step b5 h2, cell_step b5 h3, cell_step b5 h4, below_step h5 b5⟩ (fun hHeld => ?_)
    clear hK K h0 h1 h2 h3 h4 h5
    try simp only [Act.put, List.setIfInBounds_toArray, List.set_cons_zero, List.set_cons_succ, List.getElem_toArray, List.getElem_cons_zero, List.getElem_cons_succ]
    refine wpAnyH_ready (rs := [9, 11]) (by kernel_rfl) (by simp) ?_
    refine AllReadyH.cons rfl (fun K hK => ?_) ?_
    · try simp only [Act.put, List.setIfInBounds_toArray, List.set_cons_zero, List.set_cons_succ, List.getElem_toArray, List.getElem_cons_zero, List.getElem_cons_succ]
      go_simp
      go_at_call 28
      refine (HSc.out _ (AL.trans (BW5.mono (by omega)))).mono ?_
      rintro e w6 ⟨vm, rfl, om, b6⟩
      have BW6 := below_step BW5 b6
      obtain ⟨am, cm, rfl⟩ := own_value om
      have OM := Lib.hid om
      clear om
      go_wp2_with fail
      obtain ⟨h0, h1, h2, h3, h4, h5⟩ := hHeld
      refine hK.out _ _ ⟨cell_step b6 h0, cell_step b6 h1, cell_step b6 h2, cell_step b6 h3, cell_step b6 h4, below_step h5 b6⟩ (fun hHeld => ?_)
      clear hK K h0 h1 h2 h3 h4 h5
      try simp only [Act.put, List.setIfInBounds_toArray, List.set_cons_zero, List.set_cons_succ, List.getElem_toArray, List.getElem_cons_zero, List.getElem_cons_succ]
      refine wpAnyH_take (i := 10) (v := ?v9) rfl (by kernel_rfl) (by kernel_rfl) (by kernel_rfl) (fun _ _ _ h => h) (Or.inl ⟨by rfl, ?hy9⟩) (by assumption) ?rest9
      case hy9 => (intro w hSw; (try dsimp only at hSw); go_simp; (first | done | with_reducible rfl))
      simp only [Act.put, List.setIfInBounds_toArray, List.set_cons_zero, List.set_cons_succ, List.getElem_toArray, List.getElem_cons_zero, List.getElem_cons_succ]
      refine wpAnyH_ready (rs := [11]) (by kernel_rfl) (by simp) ?_
      refine AllReadyH.cons rfl (fun K hK => ?_) AllReadyH.nil
      simp only [List.getElem_toArray, List.getElem_cons_zero, List.getElem_cons_succ]
      try simp only [Act.put, List.setIfInBounds_toArray, List.set_cons_zero, List.set_cons_succ]
      go_simp
      have BW7 := (BW6.alloc BW6.size (.cells #[.slice none 0 0, .slice none 0 0] 31))
      have hU := cells_two w6 (.slice none 0 0) (.slice none 0 0) 31
      have fU := World.frozen?_alloc_new w6 #[.slice none 0 0, .slice none 0 0] 31
      have hzU : (w6.alloc (.cells #[.slice none 0 0, .slice none 0 0] 31)).heap.size = w6.heap.size + 1 := by simp
      have bU := (Below.refl w6.heap.size w6).alloc (Nat.le_refl _) (.cells #[.slice none 0 0, .slice none 0 0] 31)
      obtain ⟨h0, h1, h2, h3, h4, h5⟩ := hHeld
      refine hK.out _ _ ⟨cell_step bU h0, cell_step bU h1, cell_step bU h2, cell_step bU h3, cell_step bU h4, below_step h5 bU⟩ (fun hHeld => ?_)
      clear hK K h0 h1 h2 h3 h4 h5
      try simp only [Act.put, List.setIfInBounds_toArray, List.set_cons_zero, List.set_cons_succ, List.getElem_toArray, List.getElem_cons_zero, List.getElem_cons_succ]
      generalize (w6.alloc (.cells #[.slice none 0 0, .slice none 0 0] 31)) = WU at *
      refine wpAnyH_ready (rs := [12]) (by kernel_rfl) (by simp) ?_
      refine AllReadyH.cons rfl (fun K hK => ?_) AllReadyH.nil
      simp only [List.getElem_toArray, List.getElem_cons_zero, List.getElem_cons_succ]
      have zz : W0.drew.heap.size = W0.heap.size := rfl
      have hNW : NN + 2 < W0.heap.size := by omega
      have z5 := b5.size
      have z6 := b6.size
      have HMD := Lib.hid (Mid.made (W0 := W0) (N := W0.heap.size) (n := zp.length) (m := zm.length) (xs := zp) (ys := scaleL zm mom q) (vp := .slice ap zp.length cp) (vm := .slice am zm.length cm) (x0 := .slice none 0 0) (x1 := .slice none 0 0) (W := WU) (U := w6.heap.size) (by omega) hU.1 hU.2 (fU 0) (fU 1) (own_below (own_below OP.out b6) bU) (owns_mono (by omega) (own_below OM.out bU)) (fun e => by have := OP.out.lt _ e; omega) (fun e => by have := OM.out.lt _ e; omega) (fun k e e2 => by have := OP.out.lt _ e; have := OM.out.lt _ e2; omega) BW7)
      have x0_ := hU.1
      have x1_ := hU.2
      have y0_ := (fU 0)
      have y1_ := (fU 1)
      go_simp
      have z0 := (HMD.out.bb.cell (p := ⟨NN, 0, none⟩) (show NN < _ by omega)).trans r0
      have z1 := (HMD.out.bb.cell (p := ⟨NN, 1, none⟩) (show NN < _ by omega)).trans r1
      have z2 := (HMD.out.bb.cell (p := ⟨NN, 2, none⟩) (show NN < _ by omega)).trans r2
      have z3 := (HMD.out.bb.cell (p := ⟨NN + 1, 0, none⟩) (show NN + 1 < _ by omega)).trans s0
      have z4 := (HMD.out.bb.cell (p := ⟨NN + 1, 1, none⟩) (show NN + 1 < _ by omega)).trans s1
      refine hK.out _ _ ⟨z0, z1, z2, z3, z4, HMD.out.bb⟩ (fun hHeld => ?_)
      clear hK K hHeld
      try simp only [Act.put, List.setIfInBounds_toArray, List.set_cons_zero, List.set_cons_succ, List.getElem_toArray, List.getElem_cons_zero, List.getElem_cons_succ]
      refine wpAnyH_done (by kernel_rfl) ?_ _
      generalize (WU.setCell ⟨w6.heap.size, 0, none⟩ (.slice ap zp.length cp)).setCell ⟨w6.heap.size, 1, none⟩ (.slice am zm.length cm) = W8 at *
      clear OP OM x0_ x1_ y0_ y1_ hU fU hzU bU BW5 BW6 BW7 b5 b6 B00 zz z5 z6
      generalize w6.heap.size = U at *
      have HAd := Lib.hid (add_any (.slice am zm.length cm) (.slice a3 zg.length c3) (scaleL zm mom q) zg (by rw [scaleL_length]; exact hm) hg W0.heap.size NN W8 HMD.out.bb.size (by rw [scaleL_length]; exact HMD.out.om) (by have := HMD.out.bb.size; omega) (HIG.out.below (AL.trans (HMD.out.bb.mono (by omega)))))
      have u0 := HMD.out.u0
      have u1 := HMD.out.u1
      clear z1 z3 z4
      go_wp2_with fail
      refine HAd.out.mono ?_
      rintro e w9 hA
      unfold AddedTo at hA
      rw [if_pos (by rw [scaleL_length]; exact HL.out.1.symm.trans HL.out.2), scaleL_length] at hA
      obtain ⟨rfl, om9, g9⟩ := hA
      obtain ⟨ms, hms⟩ : ∃ ms, ms = nextM zm zg mom q := ⟨_, rfl⟩
      have hml : ms.length = zm.length := by rw [hms, nextM_length _ _ _ _ (HL.out.1.symm.trans HL.out.2)]; exact HL.out.2.symm.trans HL.out.1
      have HMW : Hid (∀ z ∈ ms, Word z) := Lib.hid (by rw [hms]; exact nextM_word _ _ _ _)
      have om9' : w9.ownsRow W0.heap.size 2 1 (.slice am zm.length cm) zm.length (ms.map (Value.int .i64)) := by rw [hms]; exact om9
      have HM9 := Lib.hid (HMD.out.addM g9 om9')
      have HMS := Lib.hid hms
      clear om9 om9' g9 hms HAd HMD u0 u1
      have hm1 : ms.length ≤ zm.length := by omega
      have hm2 : zm.length ≤ ms.length := by omega
      clear hml
      have u0 := HM9.out.u0
      have u1 := HM9.out.u1
      have n0 := (HM9.out.bb.cell (p := ⟨NN, 0, none⟩) (show NN < _ by omega)).trans r0
      have n2 := (HM9.out.bb.cell (p := ⟨NN, 2, none⟩) (show NN < _ by omega)).trans r2
      have HS9 := Lib.hid (scale_any (.slice am zm.length cm) ms rate q hr HMW.out (by omega) w9 (IntsAt.of_owns (by omega) HM9.out.om))
      clear z0 z2
      go_wp2_with fail
      refine HS9.out.mono ?_
      rintro e w10 ⟨vx, rfl, ox, b10⟩
      obtain ⟨ax, cx, rfl⟩ := own_value ox
      have HX := Lib.hid ox
      have HM10 := Lib.hid (HM9.out.below b10)
      obtain ⟨xs, hxs⟩ : ∃ xs, xs = scaleL ms rate q := ⟨_, rfl⟩
      have hxl : xs.length = ms.length := by rw [hxs, scaleL_length]
      rw [← hxs] at HX
      have hx1 : xs.length ≤ ms.length := by omega
      have hx2 : ms.length ≤ xs.length := by omega
      clear hxl
      have HXS := Lib.hid hxs
      clear ox b10 HS9 hxs u0 u1 n0 n2
      go_wp2_with fail
      go_loopw [9, 10, 50] (fun _ _ i wr => ∃ k : Nat, k ≤ ms.length ∧ i = .int .i64 k ∧ wr.ownsRow W0.heap.size 2 1 (.slice ap zp.length cp) zp.length ((zipP subW zp xs k).map (Value.int .i64)) ∧ w10.grownBy wr (Value.slice ap zp.length cp).ownBlock) (fun _ _ i _ => ms.length - (intOf i).toNat)
      case atStart => exact ⟨0, Nat.zero_le _, rfl, by rw [zipP_zero]; exact HM10.out.op, grown_below (Below.refl _ _) _⟩
      case round =>
        obtain ⟨k, hk, rfl, ov, gr⟩ := hrel
        have hMR := HM10.out.addP gr ov
        have u0 := hMR.u0
        have u1 := hMR.u1
        have HMR := Lib.hid hMR
        clear hMR
        have HZX : Hid (zp.length = xs.length) := Lib.hid (by omega)
        by_cases hlt : k < ms.length
        · obtain ⟨g, cc, e0, hg1, hg2⟩ := own_some ov (by omega)
          cases e0
          have oxr := row_apart HX.out gr (rows_apart HM9.out.op HX.out (Nat.le_refl _))
          have cv1 := ov.cellAt k (by omega)
          have cf1 := ov.frozenAt k
          obtain ⟨gx, cx2, e0, hy1, hy2⟩ := own_some oxr (by omega)
          cases e0
          have cc1 := oxr.cellAt k (by omega)
          rw [List.getElem?_map, zipP_get subW zp xs k k HZX.out (by omega) (by omega), if_neg (by omega)] at cv1
          rw [List.getElem?_map, List.getElem?_eq_getElem (show k < xs.length by omega)] at cc1
          simp only [Option.map_some] at cv1 cc1
          have hset := zipP_set subW zp xs k HZX.out (by omega)
          rw [show xs[k]?.getD 0 = xs[k]'(by omega) by rw [List.getElem?_eq_getElem (show k < xs.length by omega)]; rfl] at hset
          have hne : (⟨g, k, none⟩ : Addr) ≠ ⟨U, 0, none⟩ := by intro e; cases e; exact HMR.out.pu rfl
          have HSET := Lib.hid hset
          have OV := Lib.hid ov
          have GR := Lib.hid gr
          have hkp : k < zp.length := by omega
          have hkx : k < xs.length := by omega
          clear hset ov gr oxr
          generalize zp[k]?.getD 0 = x at *
          generalize xs[k] = y at *
          go_wp2_with fail
          refine wp_region_held_drew (S := fun w' => w'.cell? ⟨U, 0, none⟩ = some (.slice (some ⟨g, 0, none⟩) zp.length cp)) (by kernel_rfl) ?_ (fun hHeld => ?_)
          · exact u0
          have i0 : (0 : Int) ≤ (k : Int) := by omega
          have i1 : (k : Int) < (zp.length : Int) := by omega
          refine wpAnyH_take (i := 0) (v := ?v10) rfl (by kernel_rfl) (by kernel_rfl) (by kernel_rfl) (fun _ _ _ h => h) (Or.inl ⟨by rfl, ?hy10⟩) (by assumption) ?rest10
          case hy10 => (intro w hSw; (try dsimp only at hSw); go_simp; (first | done | with_reducible rfl))
          simp only [Act.put, List.setIfInBounds_toArray, List.set_cons_zero, List.set_cons_succ, List.getElem_toArray, List.getElem_cons_zero]
          refine wpAnyH_take (i := 1) (v := ?v11) rfl (by kernel_rfl) (by kernel_rfl) (by kernel_rfl) (fun _ _ _ h => h) (Or.inl ⟨by rfl, ?hy11⟩) (by assumption) ?rest11
          case hy11 => (intro w hSw; (try dsimp only at hSw); go_simp; (first | done | with_reducible rfl))
          simp only [Act.put, List.setIfInBounds_toArray, List.set_cons_zero, List.set_cons_succ, List.getElem_toArray, List.getElem_cons_zero, List.getElem_cons_succ]
          refine wpAnyH_take (i := 2) (v := ?v12) rfl (by kernel_rfl) (by kernel_rfl) (by kernel_rfl) (fun _ _ _ h => h) (Or.inl ⟨by rfl, ?hy12⟩) (by assumption) ?rest12
          case hy12 => (intro w hSw; (try dsimp only at hSw); go_simp; (first | done | with_reducible rfl))
          simp only [Act.put, List.setIfInBounds_toArray, List.set_cons_zero, List.set_cons_succ, List.getElem_toArray, List.getElem_cons_zero, List.getElem_cons_succ]
          refine wpAnyH_take (i := 3) (v := ?v13) rfl (by kernel_rfl) (by kernel_rfl) (by kernel_rfl) (fun _ _ _ h => h) (Or.inl ⟨by rfl, ?hy13⟩) (by assumption) ?rest13
          case hy13 => (intro w hSw; (try dsimp only at hSw); go_simp; (first | done | with_reducible rfl))
          simp only [Act.put, List.setIfInBounds_toArray, List.set_cons_zero, List.set_cons_succ, List.getElem_toArray, List.getElem_cons_zero, List.getElem_cons_succ]
          refine wpAnyH_take (i := 4) (v := ?v14) rfl (by kernel_rfl) (by kernel_rfl) (by kernel_rfl) (fun _ _ _ h => h) (Or.inl ⟨by rfl, ?hy14⟩) (by assumption) ?rest14
          case hy14 => (intro w hSw; (try dsimp only at hSw); go_simp; (first | done | with_reducible rfl))
          simp only [Act.put, List.setIfInBounds_toArray, List.set_cons_zero, List.set_cons_succ, List.getElem_toArray, List.getElem_cons_zero, List.getElem_cons_succ]
          refine wpAnyH_take (i := 5) (v := ?v15) rfl (by kernel_rfl) (by kernel_rfl) (by kernel_rfl) (fun _ _ _ h => h) (Or.inl ⟨by rfl, ?hy15⟩) (by assumption) ?rest15
          case hy15 => (intro w hSw; (try dsimp only at hSw); go_simp; (first | done | with_reducible rfl))
          simp only [Act.put, List.setIfInBounds_toArray, List.set_cons_zero, List.set_cons_succ, List.getElem_toArray, List.getElem_cons_zero, List.getElem_cons_succ]
          refine wpAnyH_take (i := 6) (v := ?v16) rfl (by kernel_rfl) (by kernel_rfl) (by kernel_rfl) (fun _ _ _ h => h) (Or.inl ⟨by rfl, ?hy16⟩) (by assumption) ?rest16
          case hy16 => (intro w hSw; (try dsimp only at hSw); go_simp; (first | done | with_reducible rfl))
          simp only [Act.put, List.setIfInBounds_toArray, List.set_cons_zero, List.set_cons_succ, List.getElem_toArray, List.getElem_cons_zero, List.getElem_cons_succ]
          refine wpAnyH_take (i := 8) (v := ?v17) rfl (by kernel_rfl) (by kernel_rfl) (by kernel_rfl) (fun _ _ _ h => h) (Or.inl ⟨by rfl, ?hy17⟩) (by assumption) ?rest17
          case hy17 => (intro w hSw; (try dsimp only at hSw); go_simp; (first | done | with_reducible rfl))
          simp only [Act.put, List.setIfInBounds_toArray, List.set_cons_zero, List.set_cons_succ, List.getElem_toArray, List.getElem_cons_zero, List.getElem_cons_succ]
          refine wpAnyH_ready (rs := [7]) (by kernel_rfl) (by simp) ?_
          refine AllReadyH.cons rfl (fun K hK => ?_) AllReadyH.nil
          simp only [List.getElem_toArray, List.getElem_cons_zero, List.getElem_cons_succ]
          go_simp
          refine hK.out _ _ hHeld (fun hHeld => ?_)
          clear hK K
          try simp only [Act.put, List.setIfInBounds_toArray, List.set_cons_zero, List.set_cons_succ, List.getElem_toArray, List.getElem_cons_zero, List.getElem_cons_succ]
          refine wpAnyH_ready (rs := [9]) (by kernel_rfl) (by simp) ?_
          refine AllReadyH.cons rfl (fun K hK => ?_) AllReadyH.nil
          simp only [List.getElem_toArray, List.getElem_cons_zero, List.getElem_cons_succ]
          go_simp
          go_at_call 30
          refine (sub_any x y _).mono ?_
          rintro e w11 ⟨rfl, rfl⟩
          go_wp2_with fail
          refine hK.out _ _ hHeld (fun hHeld => ?_)
          clear hK K
          try simp only [Act.put, List.setIfInBounds_toArray, List.set_cons_zero, List.set_cons_succ, List.getElem_toArray, List.getElem_cons_zero, List.getElem_cons_succ]
          refine wpAnyH_take (i := 10) (v := ?v18) rfl (by kernel_rfl) (by kernel_rfl) (by kernel_rfl) (fun _ _ _ h => h) (Or.inl ⟨by rfl, ?hy18⟩) (by assumption) ?rest18
          case hy18 => (intro w hSw; (try dsimp only at hSw); go_simp; (first | done | with_reducible rfl))
          simp only [Act.put, List.setIfInBounds_toArray, List.set_cons_zero, List.set_cons_succ, List.getElem_toArray, List.getElem_cons_zero, List.getElem_cons_succ]
          refine wpAnyH_ready (rs := [11]) (by kernel_rfl) (by simp) ?_
          refine AllReadyH.cons rfl (fun K hK => ?_) AllReadyH.nil
          simp only [List.getElem_toArray, List.getElem_cons_zero, List.getElem_cons_succ]
          go_simp
          have ov2 := OV.out.drew.stored k (.int .i64 (subW x y))
          have ovn : ((wr.setCell ⟨g, k, none⟩ (.int .i64 (wrap64 (x - y)))).drew).ownsRow W0.heap.size 2 1 (.slice (some ⟨g, 0, none⟩) zp.length cp) zp.length ((zipP subW zp xs (k + 1)).map (Value.int .i64)) := by
            have h := ov2.1
            rw [List.set_map_eq, HSET.out] at h
            exact h
          have grn : w10.grownBy ((wr.setCell ⟨g, k, none⟩ (.int .i64 (wrap64 (x - y)))).drew) (Value.slice (some ⟨g, 0, none⟩) zp.length cp).ownBlock := grown_trans GR.out ⟨ov2.2.os, ov2.2.tape, ov2.2.output, ov2.2.size, ov2.2.block⟩
          have hSn : ((wr.setCell ⟨g, k, none⟩ (.int .i64 (wrap64 (x - y)))).drew).cell? ⟨U, 0, none⟩ = some (.slice (some ⟨g, 0, none⟩) zp.length cp) := (World.cell?_setCell_other _ _ _ _ hne).trans u0
          have HFN := Lib.hid (And.intro ovn grn)
          refine hK.out _ _ hSn (fun hHeld => ?_)
          clear hK K ov2 ovn grn hSn
          try simp only [Act.put, List.setIfInBounds_toArray, List.set_cons_zero, List.set_cons_succ, List.getElem_toArray, List.getElem_cons_zero, List.getElem_cons_succ]
          refine wpAnyH_done (by kernel_rfl) ?_ _
          generalize ((wr.setCell ⟨g, k, none⟩ (.int .i64 (wrap64 (x - y)))).drew) = wn at *
          go_wp2_with fail
          refine ⟨⟨k + 1, by omega, by go_num, HFN.out.1, HFN.out.2⟩, ?_⟩
          show ms.length - ((k : Int) + 1).toNat < ms.length - ((k : Int)).toNat
          omega
        · have hk' : k = zp.length := by omega
          rw [hk', zipP_all subW zp xs HZX.out] at ov
          have q0' := (HMR.out.bb.cell (p := ⟨NN + 1 + 1, 0, none⟩) (show NN + 1 + 1 < _ by omega)).trans q0
          have q1' := (HMR.out.bb.cell (p := ⟨NN + 1 + 1, 1, none⟩) (show NN + 1 + 1 < _ by omega)).trans q1
          have y0' := (HMR.out.bb.frozen (p := ⟨NN + 1 + 1, 0, none⟩) (show NN + 1 + 1 < _ by omega)).trans qf0
          have y1' := (HMR.out.bb.frozen (p := ⟨NN + 1 + 1, 1, none⟩) (show NN + 1 + 1 < _ by omega)).trans qf1
          have ST := stored2 (.slice ap zp.length cp) (.slice am zm.length cm) q0' q1' y0' y1'
          have G := grown_trans (grown_set wr (NN + 1 + 1) 0 (.slice ap zp.length cp)) (grown_set _ (NN + 1 + 1) 1 (.slice am zm.length cm))
          have RP := owns_mono (show NN ≤ W0.heap.size by omega) (row_kept ov G (by omega))
          have RM := owns_mono (show NN ≤ W0.heap.size by omega) (row_kept HMR.out.om G (by omega))
          have enp : List.zipWith subW zp xs = nextP zp ms rate q := by rw [HXS.out]; rfl
          have hpm : zp.length = ms.length := by omega
          rw [enp] at RP
          have HFN : Hid (OwnState NN (.agg #[.slice ap zp.length cp, .slice am zm.length cm]) (nextP zp ms rate q) ms ((wr.setCell ⟨NN + 1 + 1, 0, none⟩ (.slice ap zp.length cp)).setCell ⟨NN + 1 + 1, 1, none⟩ (.slice am zm.length cm))) := Lib.hid ⟨_, _, rfl, by rw [nextP_length _ _ _ _ hpm]; exact RP, by rw [show ms.length = zm.length by omega]; exact RM⟩
          have HBF := Lib.hid ((AL.trans (HMR.out.bb.mono (by omega))).trans (ST.2.2.2.2.mono (show NN ≤ NN + 1 + 1 by omega)))
          clear RP RM enp ov gr G hpm hk'
          go_wp2_with fail
          (try simp only [Exit.inBlock, Exit.then])
          refine bodyPost_ret (v := .tuple #[.agg #[.slice ap zp.length cp, .slice am zm.length cm], .bool true]) (by simp [results, Try.results12, ST.1, ST.2.1, go_sem]) rfl ?_
          unfold NextIs
          rw [if_pos HN.out, hN, ← HMS.out]
          exact ⟨_, rfl, HFN.out, HBF.out⟩
    · refine AllReadyH.cons rfl (fun K hK => ?_) AllReadyH.nil
      try simp only [Act.put, List.setIfInBounds_toArray, List.set_cons_zero, List.set_cons_succ, List.getElem_toArray, List.getElem_cons_zero, List.getElem_cons_succ]
      go_simp
      have BW7 := (BW5.alloc BW5.size (.cells #[.slice none 0 0, .slice none 0 0] 31))
      have hU := cells_two w5 (.slice none 0 0) (.slice none 0 0) 31
      have fU := World.frozen?_alloc_new w5 #[.slice none 0 0, .slice none 0 0] 31
      have hzU : (w5.alloc (.cells #[.slice none 0 0, .slice none 0 0] 31)).heap.size = w5.heap.size + 1 := by simp
      have bU := (Below.refl w5.heap.size w5).alloc (Nat.le_refl _) (.cells #[.slice none 0 0, .slice none 0 0] 31)
      obtain ⟨h0, h1, h2, h3, h4, h5⟩ := hHeld
      refine hK.out _ _ ⟨cell_step bU h0, cell_step bU h1, cell_step bU h2, cell_step bU h3, cell_step bU h4, below_step h5 bU⟩ (fun hHeld => ?_)
      clear hK K h0 h1 h2 h3 h4 h5
      try simp only [Act.put, List.setIfInBounds_toArray, List.set_cons_zero, List.set_cons_succ, List.getElem_toArray, List.getElem_cons_zero, List.getElem_cons_succ]
      generalize (w5.alloc (.cells #[.slice none 0 0, .slice none 0 0] 31)) = WU at *
      refine wpAnyH_ready (rs := [9]) (by kernel_rfl) (by simp) ?_
      refine AllReadyH.cons rfl (fun K hK => ?_) AllReadyH.nil
      simp only [List.getElem_toArray, List.getElem_cons_zero, List.getElem_cons_succ]
      try simp only [Act.put, List.setIfInBounds_toArray, List.set_cons_zero, List.set_cons_succ]
      go_simp
      go_at_call 28
      refine (HSc.out _ (AL.trans (BW7.mono (by omega)))).mono ?_
      rintro e w6 ⟨vm, rfl, om, b6⟩
      have BW6 := below_step BW7 b6
      obtain ⟨am, cm, rfl⟩ := own_value om
      have OM := Lib.hid om
      clear om
      go_wp2_with fail
      obtain ⟨h0, h1, h2, h3, h4, h5⟩ := hHeld
      refine hK.out _ _ ⟨cell_step b6 h0, cell_step b6 h1, cell_step b6 h2, cell_step b6 h3, cell_step b6 h4, below_step h5 b6⟩ (fun hHeld => ?_)
      clear hK K h0 h1 h2 h3 h4 h5
      try simp only [Act.put, List.setIfInBounds_toArray, List.set_cons_zero, List.set_cons_succ, List.getElem_toArray, List.getElem_cons_zero, List.getElem_cons_succ]
      refine wpAnyH_take (i := 10) (v := ?v19) rfl (by kernel_rfl) (by kernel_rfl) (by kernel_rfl) (fun _ _ _ h => h) (Or.inl ⟨by rfl, ?hy19⟩) (by assumption) ?rest19
      case hy19 => (intro w hSw; (try dsimp only at hSw); go_simp; (first | done | with_reducible rfl))
      simp only [Act.put, List.setIfInBounds_toArray, List.set_cons_zero, List.set_cons_succ, List.getElem_toArray, List.getElem_cons_zero, List.getElem_cons_succ]
      refine wpAnyH_ready (rs := [12]) (by kernel_rfl) (by simp) ?_
      refine AllReadyH.cons rfl (fun K hK => ?_) AllReadyH.nil
      simp only [List.getElem_toArray, List.getElem_cons_zero, List.getElem_cons_succ]
      have zz : W0.drew.heap.size = W0.heap.size := rfl
      have hNW : NN + 2 < W0.heap.size := by omega
      have z5 := b5.size
      have z6 := b6.size
      have HMD := Lib.hid (Mid.made (W0 := W0) (N := W0.heap.size) (n := zp.length) (m := zm.length) (xs := zp) (ys := scaleL zm mom q) (vp := .slice ap zp.length cp) (vm := .slice am zm.length cm) (x0 := .slice none 0 0) (x1 := .slice none 0 0) (W := w6) (U := w5.heap.size) (by omega) (cell_step b6 hU.1) (cell_step b6 hU.2) (frozen_step b6 hU.1 (fU 0)) (frozen_step b6 hU.2 (fU 1)) (own_below (own_below OP.out bU) b6) (owns_mono (by omega) OM.out) (fun e => by have := OP.out.lt _ e; omega) (fun e => by have := OM.out.lt _ e; omega) (fun k e e2 => by have := OP.out.lt _ e; have := OM.out.lt _ e2; omega) BW6)
      have x0_ := (cell_step b6 hU.1)
      have x1_ := (cell_step b6 hU.2)
      have y0_ := (frozen_step b6 hU.1 (fU 0))
      have y1_ := (frozen_step b6 hU.2 (fU 1))
      go_simp
      have z0 := (HMD.out.bb.cell (p := ⟨NN, 0, none⟩) (show NN < _ by omega)).trans r0
      have z1 := (HMD.out.bb.cell (p := ⟨NN, 1, none⟩) (show NN < _ by omega)).trans r1
      have z2 := (HMD.out.bb.cell (p := ⟨NN, 2, none⟩) (show NN < _ by omega)).trans r2
      have z3 := (HMD.out.bb.cell (p := ⟨NN + 1, 0, none⟩) (show NN + 1 < _ by omega)).trans s0
      have z4 := (HMD.out.bb.cell (p := ⟨NN + 1, 1, none⟩) (show NN + 1 < _ by omega)).trans s1
      refine hK.out _ _ ⟨z0, z1, z2, z3, z4, HMD.out.bb⟩ (fun hHeld => ?_)
      clear hK K hHeld
      try simp only [Act.put, List.setIfInBounds_toArray, List.set_cons_zero, List.set_cons_succ, List.getElem_toArray, List.getElem_cons_zero, List.getElem_cons_succ]
      refine wpAnyH_done (by kernel_rfl) ?_ _
      generalize (w6.setCell ⟨w5.heap.size, 0, none⟩ (.slice ap zp.length cp)).setCell ⟨w5.heap.size, 1, none⟩ (.slice am zm.length cm) = W8 at *
      clear OP OM x0_ x1_ y0_ y1_ hU fU hzU bU BW5 BW6 BW7 b5 b6 B00 zz z5 z6
      generalize w5.heap.size = U at *
      have HAd := Lib.hid (add_any (.slice am zm.length cm) (.slice a3 zg.length c3) (scaleL zm mom q) zg (by rw [scaleL_length]; exact hm) hg W0.heap.size NN W8 HMD.out.bb.size (by rw [scaleL_length]; exact HMD.out.om) (by have := HMD.out.bb.size; omega) (HIG.out.below (AL.trans (HMD.out.bb.mono (by omega)))))
      have u0 := HMD.out.u0
      have u1 := HMD.out.u1
      clear z1 z3 z4
      go_wp2_with fail
      refine HAd.out.mono ?_
      rintro e w9 hA
      unfold AddedTo at hA
      rw [if_pos (by rw [scaleL_length]; exact HL.out.1.symm.trans HL.out.2), scaleL_length] at hA
      obtain ⟨rfl, om9, g9⟩ := hA
      obtain ⟨ms, hms⟩ : ∃ ms, ms = nextM zm zg mom q := ⟨_, rfl⟩
      have hml : ms.length = zm.length := by rw [hms, nextM_length _ _ _ _ (HL.out.1.symm.trans HL.out.2)]; exact HL.out.2.symm.trans HL.out.1
      have HMW : Hid (∀ z ∈ ms, Word z) := Lib.hid (by rw [hms]; exact nextM_word _ _ _ _)
      have om9' : w9.ownsRow W0.heap.size 2 1 (.slice am zm.length cm) zm.length (ms.map (Value.int .i64)) := by rw [hms]; exact om9
      have HM9 := Lib.hid (HMD.out.addM g9 om9')
      have HMS := Lib.hid hms
      clear om9 om9' g9 hms HAd HMD u0 u1
      have hm1 : ms.length ≤ zm.length := by omega
      have hm2 : zm.length ≤ ms.length := by omega
      clear hml
      have u0 := HM9.out.u0
      have u1 := HM9.out.u1
      have n0 := (HM9.out.bb.cell (p := ⟨NN, 0, none⟩) (show NN < _ by omega)).trans r0
      have n2 := (HM9.out.bb.cell (p := ⟨NN, 2, none⟩) (show NN < _ by omega)).trans r2
      have HS9 := Lib.hid (scale_any (.slice am zm.length cm) ms rate q hr HMW.out (by omega) w9 (IntsAt.of_owns (by omega) HM9.out.om))
      clear z0 z2
      go_wp2_with fail
      refine HS9.out.mono ?_
      rintro e w10 ⟨vx, rfl, ox, b10⟩
      obtain ⟨ax, cx, rfl⟩ := own_value ox
      have HX := Lib.hid ox
      have HM10 := Lib.hid (HM9.out.below b10)
      obtain ⟨xs, hxs⟩ : ∃ xs, xs = scaleL ms rate q := ⟨_, rfl⟩
      have hxl : xs.length = ms.length := by rw [hxs, scaleL_length]
      rw [← hxs] at HX
      have hx1 : xs.length ≤ ms.length := by omega
      have hx2 : ms.length ≤ xs.length := by omega
      clear hxl
      have HXS := Lib.hid hxs
      clear ox b10 HS9 hxs u0 u1 n0 n2
      go_wp2_with fail
      go_loopw [9, 10, 50] (fun _ _ i wr => ∃ k : Nat, k ≤ ms.length ∧ i = .int .i64 k ∧ wr.ownsRow W0.heap.size 2 1 (.slice ap zp.length cp) zp.length ((zipP subW zp xs k).map (Value.int .i64)) ∧ w10.grownBy wr (Value.slice ap zp.length cp).ownBlock) (fun _ _ i _ => ms.length - (intOf i).toNat)
      case atStart => exact ⟨0, Nat.zero_le _, rfl, by rw [zipP_zero]; exact HM10.out.op, grown_below (Below.refl _ _) _⟩
      case round =>
        obtain ⟨k, hk, rfl, ov, gr⟩ := hrel
        have hMR := HM10.out.addP gr ov
        have u0 := hMR.u0
        have u1 := hMR.u1
        have HMR := Lib.hid hMR
        clear hMR
        have HZX : Hid (zp.length = xs.length) := Lib.hid (by omega)
        by_cases hlt : k < ms.length
        · obtain ⟨g, cc, e0, hg1, hg2⟩ := own_some ov (by omega)
          cases e0
          have oxr := row_apart HX.out gr (rows_apart HM9.out.op HX.out (Nat.le_refl _))
          have cv1 := ov.cellAt k (by omega)
          have cf1 := ov.frozenAt k
          obtain ⟨gx, cx2, e0, hy1, hy2⟩ := own_some oxr (by omega)
          cases e0
          have cc1 := oxr.cellAt k (by omega)
          rw [List.getElem?_map, zipP_get subW zp xs k k HZX.out (by omega) (by omega), if_neg (by omega)] at cv1
          rw [List.getElem?_map, List.getElem?_eq_getElem (show k < xs.length by omega)] at cc1
          simp only [Option.map_some] at cv1 cc1
          have hset := zipP_set subW zp xs k HZX.out (by omega)
          rw [show xs[k]?.getD 0 = xs[k]'(by omega) by rw [List.getElem?_eq_getElem (show k < xs.length by omega)]; rfl] at hset
          have hne : (⟨g, k, none⟩ : Addr) ≠ ⟨U, 0, none⟩ := by intro e; cases e; exact HMR.out.pu rfl
          have HSET := Lib.hid hset
          have OV := Lib.hid ov
          have GR := Lib.hid gr
          have hkp : k < zp.length := by omega
          have hkx : k < xs.length := by omega
          clear hset ov gr oxr
          generalize zp[k]?.getD 0 = x at *
          generalize xs[k] = y at *
          go_wp2_with fail
          refine wp_region_held_drew (S := fun w' => w'.cell? ⟨U, 0, none⟩ = some (.slice (some ⟨g, 0, none⟩) zp.length cp)) (by kernel_rfl) ?_ (fun hHeld => ?_)
          · exact u0
          have i0 : (0 : Int) ≤ (k : Int) := by omega
          have i1 : (k : Int) < (zp.length : Int) := by omega
          refine wpAnyH_take (i := 0) (v := ?v20) rfl (by kernel_rfl) (by kernel_rfl) (by kernel_rfl) (fun _ _ _ h => h) (Or.inl ⟨by rfl, ?hy20⟩) (by assumption) ?rest20
          case hy20 => (intro w hSw; (try dsimp only at hSw); go_simp; (first | done | with_reducible rfl))
          simp only [Act.put, List.setIfInBounds_toArray, List.set_cons_zero, List.set_cons_succ, List.getElem_toArray, List.getElem_cons_zero]
          refine wpAnyH_take (i := 1) (v := ?v21) rfl (by kernel_rfl) (by kernel_rfl) (by kernel_rfl) (fun _ _ _ h => h) (Or.inl ⟨by rfl, ?hy21⟩) (by assumption) ?rest21
          case hy21 => (intro w hSw; (try dsimp only at hSw); go_simp; (first | done | with_reducible rfl))
          simp only [Act.put, List.setIfInBounds_toArray, List.set_cons_zero, List.set_cons_succ, List.getElem_toArray, List.getElem_cons_zero, List.getElem_cons_succ]
          refine wpAnyH_take (i := 2) (v := ?v22) rfl (by kernel_rfl) (by kernel_rfl) (by kernel_rfl) (fun _ _ _ h => h) (Or.inl ⟨by rfl, ?hy22⟩) (by assumption) ?rest22
          case hy22 => (intro w hSw; (try dsimp only at hSw); go_simp; (first | done | with_reducible rfl))
          simp only [Act.put, List.setIfInBounds_toArray, List.set_cons_zero, List.set_cons_succ, List.getElem_toArray, List.getElem_cons_zero, List.getElem_cons_succ]
          refine wpAnyH_take (i := 3) (v := ?v23) rfl (by kernel_rfl) (by kernel_rfl) (by kernel_rfl) (fun _ _ _ h => h) (Or.inl ⟨by rfl, ?hy23⟩) (by assumption) ?rest23
          case hy23 => (intro w hSw; (try dsimp only at hSw); go_simp; (first | done | with_reducible rfl))
          simp only [Act.put, List.setIfInBounds_toArray, List.set_cons_zero, List.set_cons_succ, List.getElem_toArray, List.getElem_cons_zero, List.getElem_cons_succ]
          refine wpAnyH_take (i := 4) (v := ?v24) rfl (by kernel_rfl) (by kernel_rfl) (by kernel_rfl) (fun _ _ _ h => h) (Or.inl ⟨by rfl, ?hy24⟩) (by assumption) ?rest24
          case hy24 => (intro w hSw; (try dsimp only at hSw); go_simp; (first | done | with_reducible rfl))
          simp only [Act.put, List.setIfInBounds_toArray, List.set_cons_zero, List.set_cons_succ, List.getElem_toArray, List.getElem_cons_zero, List.getElem_cons_succ]
          refine wpAnyH_take (i := 5) (v := ?v25) rfl (by kernel_rfl) (by kernel_rfl) (by kernel_rfl) (fun _ _ _ h => h) (Or.inl ⟨by rfl, ?hy25⟩) (by assumption) ?rest25
          case hy25 => (intro w hSw; (try dsimp only at hSw); go_simp; (first | done | with_reducible rfl))
          simp only [Act.put, List.setIfInBounds_toArray, List.set_cons_zero, List.set_cons_succ, List.getElem_toArray, List.getElem_cons_zero, List.getElem_cons_succ]
          refine wpAnyH_take (i := 6) (v := ?v26) rfl (by kernel_rfl) (by kernel_rfl) (by kernel_rfl) (fun _ _ _ h => h) (Or.inl ⟨by rfl, ?hy26⟩) (by assumption) ?rest26
          case hy26 => (intro w hSw; (try dsimp only at hSw); go_simp; (first | done | with_reducible rfl))
          simp only [Act.put, List.setIfInBounds_toArray, List.set_cons_zero, List.set_cons_succ, List.getElem_toArray, List.getElem_cons_zero, List.getElem_cons_succ]
          refine wpAnyH_take (i := 8) (v := ?v27) rfl (by kernel_rfl) (by kernel_rfl) (by kernel_rfl) (fun _ _ _ h => h) (Or.inl ⟨by rfl, ?hy27⟩) (by assumption) ?rest27
          case hy27 => (intro w hSw; (try dsimp only at hSw); go_simp; (first | done | with_reducible rfl))
          simp only [Act.put, List.setIfInBounds_toArray, List.set_cons_zero, List.set_cons_succ, List.getElem_toArray, List.getElem_cons_zero, List.getElem_cons_succ]
          refine wpAnyH_ready (rs := [7]) (by kernel_rfl) (by simp) ?_
          refine AllReadyH.cons rfl (fun K hK => ?_) AllReadyH.nil
          simp only [List.getElem_toArray, List.getElem_cons_zero, List.getElem_cons_succ]
          go_simp
          refine hK.out _ _ hHeld (fun hHeld => ?_)
          clear hK K
          try simp only [Act.put, List.setIfInBounds_toArray, List.set_cons_zero, List.set_cons_succ, List.getElem_toArray, List.getElem_cons_zero, List.getElem_cons_succ]
          refine wpAnyH_ready (rs := [9]) (by kernel_rfl) (by simp) ?_
          refine AllReadyH.cons rfl (fun K hK => ?_) AllReadyH.nil
          simp only [List.getElem_toArray, List.getElem_cons_zero, List.getElem_cons_succ]
          go_simp
          go_at_call 30
          refine (sub_any x y _).mono ?_
          rintro e w11 ⟨rfl, rfl⟩
          go_wp2_with fail
          refine hK.out _ _ hHeld (fun hHeld => ?_)
          clear hK K
          try simp only [Act.put, List.setIfInBounds_toArray, List.set_cons_zero, List.set_cons_succ, List.getElem_toArray, List.getElem_cons_zero, List.getElem_cons_succ]
          refine wpAnyH_take (i := 10) (v := ?v28) rfl (by kernel_rfl) (by kernel_rfl) (by kernel_rfl) (fun _ _ _ h => h) (Or.inl ⟨by rfl, ?hy28⟩) (by assumption) ?rest28
          case hy28 => (intro w hSw; (try dsimp only at hSw); go_simp; (first | done | with_reducible rfl))
          simp only [Act.put, List.setIfInBounds_toArray, List.set_cons_zero, List.set_cons_succ, List.getElem_toArray, List.getElem_cons_zero, List.getElem_cons_succ]
          refine wpAnyH_ready (rs := [11]) (by kernel_rfl) (by simp) ?_
          refine AllReadyH.cons rfl (fun K hK => ?_) AllReadyH.nil
          simp only [List.getElem_toArray, List.getElem_cons_zero, List.getElem_cons_succ]
          go_simp
          have ov2 := OV.out.drew.stored k (.int .i64 (subW x y))
          have ovn : ((wr.setCell ⟨g, k, none⟩ (.int .i64 (wrap64 (x - y)))).drew).ownsRow W0.heap.size 2 1 (.slice (some ⟨g, 0, none⟩) zp.length cp) zp.length ((zipP subW zp xs (k + 1)).map (Value.int .i64)) := by
            have h := ov2.1
            rw [List.set_map_eq, HSET.out] at h
            exact h
          have grn : w10.grownBy ((wr.setCell ⟨g, k, none⟩ (.int .i64 (wrap64 (x - y)))).drew) (Value.slice (some ⟨g, 0, none⟩) zp.length cp).ownBlock := grown_trans GR.out ⟨ov2.2.os, ov2.2.tape, ov2.2.output, ov2.2.size, ov2.2.block⟩
          have hSn : ((wr.setCell ⟨g, k, none⟩ (.int .i64 (wrap64 (x - y)))).drew).cell? ⟨U, 0, none⟩ = some (.slice (some ⟨g, 0, none⟩) zp.length cp) := (World.cell?_setCell_other _ _ _ _ hne).trans u0
          have HFN := Lib.hid (And.intro ovn grn)
          refine hK.out _ _ hSn (fun hHeld => ?_)
          clear hK K ov2 ovn grn hSn
          try simp only [Act.put, List.setIfInBounds_toArray, List.set_cons_zero, List.set_cons_succ, List.getElem_toArray, List.getElem_cons_zero, List.getElem_cons_succ]
          refine wpAnyH_done (by kernel_rfl) ?_ _
          generalize ((wr.setCell ⟨g, k, none⟩ (.int .i64 (wrap64 (x - y)))).drew) = wn at *
          go_wp2_with fail
          refine ⟨⟨k + 1, by omega, by go_num, HFN.out.1, HFN.out.2⟩, ?_⟩
          show ms.length - ((k : Int) + 1).toNat < ms.length - ((k : Int)).toNat
          omega
        · have hk' : k = zp.length := by omega
          rw [hk', zipP_all subW zp xs HZX.out] at ov
          have q0' := (HMR.out.bb.cell (p := ⟨NN + 1 + 1, 0, none⟩) (show NN + 1 + 1 < _ by omega)).trans q0
          have q1' := (HMR.out.bb.cell (p := ⟨NN + 1 + 1, 1, none⟩) (show NN + 1 + 1 < _ by omega)).trans q1
          have y0' := (HMR.out.bb.frozen (p := ⟨NN + 1 + 1, 0, none⟩) (show NN + 1 + 1 < _ by omega)).trans qf0
          have y1' := (HMR.out.bb.frozen (p := ⟨NN + 1 + 1, 1, none⟩) (show NN + 1 + 1 < _ by omega)).trans qf1
          have ST := stored2 (.slice ap zp.length cp) (.slice am zm.length cm) q0' q1' y0' y1'
          have G := grown_trans (grown_set wr (NN + 1 + 1) 0 (.slice ap zp.length cp)) (grown_set _ (NN + 1 + 1) 1 (.slice am zm.length cm))
          have RP := owns_mono (show NN ≤ W0.heap.size by omega) (row_kept ov G (by omega))
          have RM := owns_mono (show NN ≤ W0.heap.size by omega) (row_kept HMR.out.om G (by omega))
          have enp : List.zipWith subW zp xs = nextP zp ms rate q := by rw [HXS.out]; rfl
          have hpm : zp.length = ms.length := by omega
          rw [enp] at RP
          have HFN : Hid (OwnState NN (.agg #[.slice ap zp.length cp, .slice am zm.length cm]) (nextP zp ms rate q) ms ((wr.setCell ⟨NN + 1 + 1, 0, none⟩ (.slice ap zp.length cp)).setCell ⟨NN + 1 + 1, 1, none⟩ (.slice am zm.length cm))) := Lib.hid ⟨_, _, rfl, by rw [nextP_length _ _ _ _ hpm]; exact RP, by rw [show ms.length = zm.length by omega]; exact RM⟩
          have HBF := Lib.hid ((AL.trans (HMR.out.bb.mono (by omega))).trans (ST.2.2.2.2.mono (show NN ≤ NN + 1 + 1 by omega)))
          clear RP RM enp ov gr G hpm hk'
          go_wp2_with fail
          (try simp only [Exit.inBlock, Exit.then])
          refine bodyPost_ret (v := .tuple #[.agg #[.slice ap zp.length cp, .slice am zm.length cm], .bool true]) (by simp [results, Try.results12, ST.1, ST.2.1, go_sem]) rfl ?_
          unfold NextIs
          rw [if_pos HN.out, hN, ← HMS.out]
          exact ⟨_, rfl, HFN.out, HBF.out⟩
  · refine AllReadyH.cons rfl (fun K hK => ?_) AllReadyH.nil
    try simp only [Act.put, List.setIfInBounds_toArray, List.set_cons_zero, List.set_cons_succ, List.getElem_toArray, List.getElem_cons_zero, List.getElem_cons_succ]
    go_simp
    have BW7 := ((Below.refl W0.heap.size W0).alloc (Nat.le_refl _) (.cells #[.slice none 0 0, .slice none 0 0] 31)).drew
    have hU := cells_two W0 (.slice none 0 0) (.slice none 0 0) 31
    have fU := World.frozen?_alloc_new W0 #[.slice none 0 0, .slice none 0 0] 31
    have hzU : (W0.alloc (.cells #[.slice none 0 0, .slice none 0 0] 31)).drew.heap.size = W0.heap.size + 1 := by simp
    replace hU : (W0.alloc (.cells #[.slice none 0 0, .slice none 0 0] 31)).drew.cell? ⟨W0.heap.size, 0, none⟩ = some (.slice none 0 0) ∧ (W0.alloc (.cells #[.slice none 0 0, .slice none 0 0] 31)).drew.cell? ⟨W0.heap.size, 1, none⟩ = some (.slice none 0 0) := hU
    replace fU : ∀ o, (W0.alloc (.cells #[.slice none 0 0, .slice none 0 0] 31)).drew.frozen? ⟨W0.heap.size, o, none⟩ = false := fU
    refine hK.out _ _ ⟨cell_step BW7 r0, cell_step BW7 r1, cell_step BW7 r2, cell_step BW7 s0, cell_step BW7 s1, BW7⟩ (fun hHeld => ?_)
    clear hK K
    try simp only [Act.put, List.setIfInBounds_toArray, List.set_cons_zero, List.set_cons_succ, List.getElem_toArray, List.getElem_cons_zero, List.getElem_cons_succ]
    generalize (W0.alloc (.cells #[.slice none 0 0, .slice none 0 0] 31)).drew = WU at *
    rw [hzC] at hU fU
    refine wpAnyH_ready (rs := [2]) (by kernel_rfl) (by simp) ?_
    refine AllReadyH.cons rfl (fun K hK => ?_) AllReadyH.nil
    simp only [List.getElem_toArray, List.getElem_cons_zero, List.getElem_cons_succ]
    try simp only [Act.put, List.setIfInBounds_toArray, List.set_cons_zero, List.set_cons_succ]
    go_simp
    go_at_call 27
    refine (HCl.out _ (AL.trans (BW7.mono (by omega)))).mono ?_
    rintro e w5 ⟨vp, rfl, op, b5⟩
    have BW5 := below_step BW7 b5
    obtain ⟨ap, cp, rfl⟩ := own_value op
    have OP := Lib.hid op
    clear op
    go_wp2_with fail
    obtain ⟨h0, h1, h2, h3, h4, h5⟩ := hHeld
    refine hK.out _ _ ⟨cell_step b5 h0, cell_step b5 h1, cell_step b5 h2, cell_step b5 h3, cell_step b5 h4, below_step h5 b5⟩ (fun hHeld => ?_)
    clear hK K h0 h1 h2 h3 h4 h5
    try simp only [Act.put, List.setIfInBounds_toArray, List.set_cons_zero, List.set_cons_succ, List.getElem_toArray, List.getElem_cons_zero, List.getElem_cons_succ]
    refine wpAnyH_ready (rs := [9]) (by kernel_rfl) (by simp) ?_
    refine AllReadyH.cons rfl (fun K hK => ?_) AllReadyH.nil
    simp only [List.getElem_toArray, List.getElem_cons_zero, List.getElem_cons_succ]
    try simp only [Act.put, List.setIfInBounds_toArray, List.set_cons_zero, List.set_cons_succ]
    go_simp
    go_at_call 28
    refine (HSc.out _ (AL.trans (BW5.mono (by omega)))).mono ?_
    rintro e w6 ⟨vm, rfl, om, b6⟩
    have BW6 := below_step BW5 b6
    obtain ⟨am, cm, rfl⟩ := own_value om
    have OM := Lib.hid om
    clear om
    go_wp2_with fail
    obtain ⟨h0, h1, h2, h3, h4, h5⟩ := hHeld
    refine hK.out _ _ ⟨cell_step b6 h0, cell_step b6 h1, cell_step b6 h2, cell_step b6 h3, cell_step b6 h4, below_step h5 b6⟩ (fun hHeld => ?_)
    clear hK K h0 h1 h2 h3 h4 h5
    try simp only [Act.put, List.setIfInBounds_toArray, List.set_cons_zero, List.set_cons_succ, List.getElem_toArray, List.getElem_cons_zero, List.getElem_cons_succ]
    refine wpAnyH_take (i := 10) (v := ?v29) rfl (by kernel_rfl) (by kernel_rfl) (by kernel_rfl) (fun _ _ _ h => h) (Or.inl ⟨by rfl, ?hy29⟩) (by assumption) ?rest29
    case hy29 => (intro w hSw; (try dsimp only at hSw); go_simp; (first | done | with_reducible rfl))
    simp only [Act.put, List.setIfInBounds_toArray, List.set_cons_zero, List.set_cons_succ, List.getElem_toArray, List.getElem_cons_zero, List.getElem_cons_succ]
    refine wpAnyH_ready (rs := [12]) (by kernel_rfl) (by simp) ?_
    refine AllReadyH.cons rfl (fun K hK => ?_) AllReadyH.nil
    simp only [List.getElem_toArray, List.getElem_cons_zero, List.getElem_cons_succ]
    have zz : W0.drew.heap.size = W0.heap.size := rfl
    have hNW : NN + 2 < W0.heap.size := by omega
    have z5 := b5.size
    have z6 := b6.size
    have HMD := Lib.hid (Mid.made (W0 := W0) (N := W0.heap.size) (n := zp.length) (m := zm.length) (xs := zp) (ys := scaleL zm mom q) (vp := .slice ap zp.length cp) (vm := .slice am zm.length cm) (x0 := .slice none 0 0) (x1 := .slice none 0 0) (W := w6) (U := (NN + 3)) (by omega) (cell_step b6 (cell_step b5 hU.1)) (cell_step b6 (cell_step b5 hU.2)) (frozen_step b6 (cell_step b5 hU.1) (frozen_step b5 hU.1 (fU 0))) (frozen_step b6 (cell_step b5 hU.2) (frozen_step b5 hU.2 (fU 1))) (owns_mono (by omega) (own_below OP.out b6)) (owns_mono (by omega) OM.out) (fun e => by have := OP.out.lt _ e; omega) (fun e => by have := OM.out.lt _ e; omega) (fun k e e2 => by have := OP.out.lt _ e; have := OM.out.lt _ e2; omega) BW6)
    have x0_ := (cell_step b6 (cell_step b5 hU.1))
    have x1_ := (cell_step b6 (cell_step b5 hU.2))
    have y0_ := (frozen_step b6 (cell_step b5 hU.1) (frozen_step b5 hU.1 (fU 0)))
    have y1_ := (frozen_step b6 (cell_step b5 hU.2) (frozen_step b5 hU.2 (fU 1)))
    go_simp
    have z0 := (HMD.out.bb.cell (p := ⟨NN, 0, none⟩) (show NN < _ by omega)).trans r0
    have z1 := (HMD.out.bb.cell (p := ⟨NN, 1, none⟩) (show NN < _ by omega)).trans r1
    have z2 := (HMD.out.bb.cell (p := ⟨NN, 2, none⟩) (show NN < _ by omega)).trans r2
    have z3 := (HMD.out.bb.cell (p := ⟨NN + 1, 0, none⟩) (show NN + 1 < _ by omega)).trans s0
    have z4 := (HMD.out.bb.cell (p := ⟨NN + 1, 1, none⟩) (show NN + 1 < _ by omega)).trans s1
    refine hK.out _ _ ⟨z0, z1, z2, z3, z4, HMD.out.bb⟩ (fun hHeld => ?_)
    clear hK K hHeld
    try simp only [Act.put, List.setIfInBounds_toArray, List.set_cons_zero, List.set_cons_succ, List.getElem_toArray, List.getElem_cons_zero, List.getElem_cons_succ]
    refine wpAnyH_done (by kernel_rfl) ?_ _
    generalize (w6.setCell ⟨(NN + 3), 0, none⟩ (.slice ap zp.length cp)).setCell ⟨(NN + 3), 1, none⟩ (.slice am zm.length cm) = W8 at *
    clear OP OM x0_ x1_ y0_ y1_ hU fU hzU BW5 BW6 BW7 b5 b6 B00 zz z5 z6
    generalize (NN + 3) = U at *
    have HAd := Lib.hid (add_any (.slice am zm.length cm) (.slice a3 zg.length c3) (scaleL zm mom q) zg (by rw [scaleL_length]; exact hm) hg W0.heap.size NN W8 HMD.out.bb.size (by rw [scaleL_length]; exact HMD.out.om) (by have := HMD.out.bb.size; omega) (HIG.out.below (AL.trans (HMD.out.bb.mono (by omega)))))
    have u0 := HMD.out.u0
    have u1 := HMD.out.u1
    clear z1 z3 z4
    go_wp2_with fail
    refine HAd.out.mono ?_
    rintro e w9 hA
    unfold AddedTo at hA
    rw [if_pos (by rw [scaleL_length]; exact HL.out.1.symm.trans HL.out.2), scaleL_length] at hA
    obtain ⟨rfl, om9, g9⟩ := hA
    obtain ⟨ms, hms⟩ : ∃ ms, ms = nextM zm zg mom q := ⟨_, rfl⟩
    have hml : ms.length = zm.length := by rw [hms, nextM_length _ _ _ _ (HL.out.1.symm.trans HL.out.2)]; exact HL.out.2.symm.trans HL.out.1
    have HMW : Hid (∀ z ∈ ms, Word z) := Lib.hid (by rw [hms]; exact nextM_word _ _ _ _)
    have om9' : w9.ownsRow W0.heap.size 2 1 (.slice am zm.length cm) zm.length (ms.map (Value.int .i64)) := by rw [hms]; exact om9
    have HM9 := Lib.hid (HMD.out.addM g9 om9')
    have HMS := Lib.hid hms
    clear om9 om9' g9 hms HAd HMD u0 u1
    have hm1 : ms.length ≤ zm.length := by omega
    have hm2 : zm.length ≤ ms.length := by omega
    clear hml
    have u0 := HM9.out.u0
    have u1 := HM9.out.u1
    have n0 := (HM9.out.bb.cell (p := ⟨NN, 0, none⟩) (show NN < _ by omega)).trans r0
    have n2 := (HM9.out.bb.cell (p := ⟨NN, 2, none⟩) (show NN < _ by omega)).trans r2
    have HS9 := Lib.hid (scale_any (.slice am zm.length cm) ms rate q hr HMW.out (by omega) w9 (IntsAt.of_owns (by omega) HM9.out.om))
    clear z0 z2
    go_wp2_with fail
    refine HS9.out.mono ?_
    rintro e w10 ⟨vx, rfl, ox, b10⟩
    obtain ⟨ax, cx, rfl⟩ := own_value ox
    have HX := Lib.hid ox
    have HM10 := Lib.hid (HM9.out.below b10)
    obtain ⟨xs, hxs⟩ : ∃ xs, xs = scaleL ms rate q := ⟨_, rfl⟩
    have hxl : xs.length = ms.length := by rw [hxs, scaleL_length]
    rw [← hxs] at HX
    have hx1 : xs.length ≤ ms.length := by omega
    have hx2 : ms.length ≤ xs.length := by omega
    clear hxl
    have HXS := Lib.hid hxs
    clear ox b10 HS9 hxs u0 u1 n0 n2
    go_wp2_with fail
    go_loopw [9, 10, 50] (fun _ _ i wr => ∃ k : Nat, k ≤ ms.length ∧ i = .int .i64 k ∧ wr.ownsRow W0.heap.size 2 1 (.slice ap zp.length cp) zp.length ((zipP subW zp xs k).map (Value.int .i64)) ∧ w10.grownBy wr (Value.slice ap zp.length cp).ownBlock) (fun _ _ i _ => ms.length - (intOf i).toNat)
    case atStart => exact ⟨0, Nat.zero_le _, rfl, by rw [zipP_zero]; exact HM10.out.op, grown_below (Below.refl _ _) _⟩
    case round =>
      obtain ⟨k, hk, rfl, ov, gr⟩ := hrel
      have hMR := HM10.out.addP gr ov
      have u0 := hMR.u0
      have u1 := hMR.u1
      have HMR := Lib.hid hMR
      clear hMR
      have HZX : Hid (zp.length = xs.length) := Lib.hid (by omega)
      by_cases hlt : k < ms.length
      · obtain ⟨g, cc, e0, hg1, hg2⟩ := own_some ov (by omega)
        cases e0
        have oxr := row_apart HX.out gr (rows_apart HM9.out.op HX.out (Nat.le_refl _))
        have cv1 := ov.cellAt k (by omega)
        have cf1 := ov.frozenAt k
        obtain ⟨gx, cx2, e0, hy1, hy2⟩ := own_some oxr (by omega)
        cases e0
        have cc1 := oxr.cellAt k (by omega)
        rw [List.getElem?_map, zipP_get subW zp xs k k HZX.out (by omega) (by omega), if_neg (by omega)] at cv1
        rw [List.getElem?_map, List.getElem?_eq_getElem (show k < xs.length by omega)] at cc1
        simp only [Option.map_some] at cv1 cc1
        have hset := zipP_set subW zp xs k HZX.out (by omega)
        rw [show xs[k]?.getD 0 = xs[k]'(by omega) by rw [List.getElem?_eq_getElem (show k < xs.length by omega)]; rfl] at hset
        have hne : (⟨g, k, none⟩ : Addr) ≠ ⟨U, 0, none⟩ := by intro e; cases e; exact HMR.out.pu rfl
        have HSET := Lib.hid hset
        have OV := Lib.hid ov
        have GR := Lib.hid gr
        have hkp : k < zp.length := by omega
        have hkx : k < xs.length := by omega
        clear hset ov gr oxr
        generalize zp[k]?.getD 0 = x at *
        generalize xs[k] = y at *
        go_wp2_with fail
        refine wp_region_held_drew (S := fun w' => w'.cell? ⟨U, 0, none⟩ = some (.slice (some ⟨g, 0, none⟩) zp.length cp)) (by kernel_rfl) ?_ (fun hHeld => ?_)
        · exact u0
        have i0 : (0 : Int) ≤ (k : Int) := by omega
        have i1 : (k : Int) < (zp.length : Int) := by omega
        refine wpAnyH_take (i := 0) (v := ?v30) rfl (by kernel_rfl) (by kernel_rfl) (by kernel_rfl) (fun _ _ _ h => h) (Or.inl ⟨by rfl, ?hy30⟩) (by assumption) ?rest30
        case hy30 => (intro w hSw; (try dsimp only at hSw); go_simp; (first | done | with_reducible rfl))
        simp only [Act.put, List.setIfInBounds_toArray, List.set_cons_zero, List.set_cons_succ, List.getElem_toArray, List.getElem_cons_zero]
        refine wpAnyH_take (i := 1) (v := ?v31) rfl (by kernel_rfl) (by kernel_rfl) (by kernel_rfl) (fun _ _ _ h => h) (Or.inl ⟨by rfl, ?hy31⟩) (by assumption) ?rest31
        case hy31 => (intro w hSw; (try dsimp only at hSw); go_simp; (first | done | with_reducible rfl))
        simp only [Act.put, List.setIfInBounds_toArray, List.set_cons_zero, List.set_cons_succ, List.getElem_toArray, List.getElem_cons_zero, List.getElem_cons_succ]
        refine wpAnyH_take (i := 2) (v := ?v32) rfl (by kernel_rfl) (by kernel_rfl) (by kernel_rfl) (fun _ _ _ h => h) (Or.inl ⟨by rfl, ?hy32⟩) (by assumption) ?rest32
        case hy32 => (intro w hSw; (try dsimp only at hSw); go_simp; (first | done | with_reducible rfl))
        simp only [Act.put, List.setIfInBounds_toArray, List.set_cons_zero, List.set_cons_succ, List.getElem_toArray, List.getElem_cons_zero, List.getElem_cons_succ]
        refine wpAnyH_take (i := 3) (v := ?v33) rfl (by kernel_rfl) (by kernel_rfl) (by kernel_rfl) (fun _ _ _ h => h) (Or.inl ⟨by rfl, ?hy33⟩) (by assumption) ?rest33
        case hy33 => (intro w hSw; (try dsimp only at hSw); go_simp; (first | done | with_reducible rfl))
        simp only [Act.put, List.setIfInBounds_toArray, List.set_cons_zero, List.set_cons_succ, List.getElem_toArray, List.getElem_cons_zero, List.getElem_cons_succ]
        refine wpAnyH_take (i := 4) (v := ?v34) rfl (by kernel_rfl) (by kernel_rfl) (by kernel_rfl) (fun _ _ _ h => h) (Or.inl ⟨by rfl, ?hy34⟩) (by assumption) ?rest34
        case hy34 => (intro w hSw; (try dsimp only at hSw); go_simp; (first | done | with_reducible rfl))
        simp only [Act.put, List.setIfInBounds_toArray, List.set_cons_zero, List.set_cons_succ, List.getElem_toArray, List.getElem_cons_zero, List.getElem_cons_succ]
        refine wpAnyH_take (i := 5) (v := ?v35) rfl (by kernel_rfl) (by kernel_rfl) (by kernel_rfl) (fun _ _ _ h => h) (Or.inl ⟨by rfl, ?hy35⟩) (by assumption) ?rest35
        case hy35 => (intro w hSw; (try dsimp only at hSw); go_simp; (first | done | with_reducible rfl))
        simp only [Act.put, List.setIfInBounds_toArray, List.set_cons_zero, List.set_cons_succ, List.getElem_toArray, List.getElem_cons_zero, List.getElem_cons_succ]
        refine wpAnyH_take (i := 6) (v := ?v36) rfl (by kernel_rfl) (by kernel_rfl) (by kernel_rfl) (fun _ _ _ h => h) (Or.inl ⟨by rfl, ?hy36⟩) (by assumption) ?rest36
        case hy36 => (intro w hSw; (try dsimp only at hSw); go_simp; (first | done | with_reducible rfl))
        simp only [Act.put, List.setIfInBounds_toArray, List.set_cons_zero, List.set_cons_succ, List.getElem_toArray, List.getElem_cons_zero, List.getElem_cons_succ]
        refine wpAnyH_take (i := 8) (v := ?v37) rfl (by kernel_rfl) (by kernel_rfl) (by kernel_rfl) (fun _ _ _ h => h) (Or.inl ⟨by rfl, ?hy37⟩) (by assumption) ?rest37
        case hy37 => (intro w hSw; (try dsimp only at hSw); go_simp; (first | done | with_reducible rfl))
        simp only [Act.put, List.setIfInBounds_toArray, List.set_cons_zero, List.set_cons_succ, List.getElem_toArray, List.getElem_cons_zero, List.getElem_cons_succ]
        refine wpAnyH_ready (rs := [7]) (by kernel_rfl) (by simp) ?_
        refine AllReadyH.cons rfl (fun K hK => ?_) AllReadyH.nil
        simp only [List.getElem_toArray, List.getElem_cons_zero, List.getElem_cons_succ]
        go_simp
        refine hK.out _ _ hHeld (fun hHeld => ?_)
        clear hK K
        try simp only [Act.put, List.setIfInBounds_toArray, List.set_cons_zero, List.set_cons_succ, List.getElem_toArray, List.getElem_cons_zero, List.getElem_cons_succ]
        refine wpAnyH_ready (rs := [9]) (by kernel_rfl) (by simp) ?_
        refine AllReadyH.cons rfl (fun K hK => ?_) AllReadyH.nil
        simp only [List.getElem_toArray, List.getElem_cons_zero, List.getElem_cons_succ]
        go_simp
        go_at_call 30
        refine (sub_any x y _).mono ?_
        rintro e w11 ⟨rfl, rfl⟩
        go_wp2_with fail
        refine hK.out _ _ hHeld (fun hHeld => ?_)
        clear hK K
        try simp only [Act.put, List.setIfInBounds_toArray, List.set_cons_zero, List.set_cons_succ, List.getElem_toArray, List.getElem_cons_zero, List.getElem_cons_succ]
        refine wpAnyH_take (i := 10) (v := ?v38) rfl (by kernel_rfl) (by kernel_rfl) (by kernel_rfl) (fun _ _ _ h => h) (Or.inl ⟨by rfl, ?hy38⟩) (by assumption) ?rest38
        case hy38 => (intro w hSw; (try dsimp only at hSw); go_simp; (first | done | with_reducible rfl))
        simp only [Act.put, List.setIfInBounds_toArray, List.set_cons_zero, List.set_cons_succ, List.getElem_toArray, List.getElem_cons_zero, List.getElem_cons_succ]
        refine wpAnyH_ready (rs := [11]) (by kernel_rfl) (by simp) ?_
        refine AllReadyH.cons rfl (fun K hK => ?_) AllReadyH.nil
        simp only [List.getElem_toArray, List.getElem_cons_zero, List.getElem_cons_succ]
        go_simp
        have ov2 := OV.out.drew.stored k (.int .i64 (subW x y))
        have ovn : ((wr.setCell ⟨g, k, none⟩ (.int .i64 (wrap64 (x - y)))).drew).ownsRow W0.heap.size 2 1 (.slice (some ⟨g, 0, none⟩) zp.length cp) zp.length ((zipP subW zp xs (k + 1)).map (Value.int .i64)) := by
          have h := ov2.1
          rw [List.set_map_eq, HSET.out] at h
          exact h
        have grn : w10.grownBy ((wr.setCell ⟨g, k, none⟩ (.int .i64 (wrap64 (x - y)))).drew) (Value.slice (some ⟨g, 0, none⟩) zp.length cp).ownBlock := grown_trans GR.out ⟨ov2.2.os, ov2.2.tape, ov2.2.output, ov2.2.size, ov2.2.block⟩
        have hSn : ((wr.setCell ⟨g, k, none⟩ (.int .i64 (wrap64 (x - y)))).drew).cell? ⟨U, 0, none⟩ = some (.slice (some ⟨g, 0, none⟩) zp.length cp) := (World.cell?_setCell_other _ _ _ _ hne).trans u0
        have HFN := Lib.hid (And.intro ovn grn)
        refine hK.out _ _ hSn (fun hHeld => ?_)
        clear hK K ov2 ovn grn hSn
        try simp only [Act.put, List.setIfInBounds_toArray, List.set_cons_zero, List.set_cons_succ, List.getElem_toArray, List.getElem_cons_zero, List.getElem_cons_succ]
        refine wpAnyH_done (by kernel_rfl) ?_ _
        generalize ((wr.setCell ⟨g, k, none⟩ (.int .i64 (wrap64 (x - y)))).drew) = wn at *
        go_wp2_with fail
        refine ⟨⟨k + 1, by omega, by go_num, HFN.out.1, HFN.out.2⟩, ?_⟩
        show ms.length - ((k : Int) + 1).toNat < ms.length - ((k : Int)).toNat
        omega
      · have hk' : k = zp.length := by omega
        rw [hk', zipP_all subW zp xs HZX.out] at ov
        have q0' := (HMR.out.bb.cell (p := ⟨NN + 1 + 1, 0, none⟩) (show NN + 1 + 1 < _ by omega)).trans q0
        have q1' := (HMR.out.bb.cell (p := ⟨NN + 1 + 1, 1, none⟩) (show NN + 1 + 1 < _ by omega)).trans q1
        have y0' := (HMR.out.bb.frozen (p := ⟨NN + 1 + 1, 0, none⟩) (show NN + 1 + 1 < _ by omega)).trans qf0
        have y1' := (HMR.out.bb.frozen (p := ⟨NN + 1 + 1, 1, none⟩) (show NN + 1 + 1 < _ by omega)).trans qf1
        have ST := stored2 (.slice ap zp.length cp) (.slice am zm.length cm) q0' q1' y0' y1'
        have G := grown_trans (grown_set wr (NN + 1 + 1) 0 (.slice ap zp.length cp)) (grown_set _ (NN + 1 + 1) 1 (.slice am zm.length cm))
        have RP := owns_mono (show NN ≤ W0.heap.size by omega) (row_kept ov G (by omega))
        have RM := owns_mono (show NN ≤ W0.heap.size by omega) (row_kept HMR.out.om G (by omega))
        have enp : List.zipWith subW zp xs = nextP zp ms rate q := by rw [HXS.out]; rfl
        have hpm : zp.length = ms.length := by omega
        rw [enp] at RP
        have HFN : Hid (OwnState NN (.agg #[.slice ap zp.length cp, .slice am zm.length cm]) (nextP zp ms rate q) ms ((wr.setCell ⟨NN + 1 + 1, 0, none⟩ (.slice ap zp.length cp)).setCell ⟨NN + 1 + 1, 1, none⟩ (.slice am zm.length cm))) := Lib.hid ⟨_, _, rfl, by rw [nextP_length _ _ _ _ hpm]; exact RP, by rw [show ms.length = zm.length by omega]; exact RM⟩
        have HBF := Lib.hid ((AL.trans (HMR.out.bb.mono (by omega))).trans (ST.2.2.2.2.mono (show NN ≤ NN + 1 + 1 by omega)))
        clear RP RM enp ov gr G hpm hk'
        go_wp2_with fail
        (try simp only [Exit.inBlock, Exit.then])
        refine bodyPost_ret (v := .tuple #[.agg #[.slice ap zp.length cp, .slice am zm.length cm], .bool true]) (by simp [results, Try.results12, ST.1, ST.2.1, go_sem]) rfl ?_
        unfold NextIs
        rw [if_pos HN.out, hN, ← HMS.out]
        exact ⟨_, rfl, HFN.out, HBF.out⟩
end Go.Proofs.Ytmffgbmjomaehaa
