/- Layer 18: messages are received in the order in which they were sent: the closure that takes one. -/
import Derived.Test.YtgbgmmakiimbbaaLnkS
namespace Go.Proofs.Ytgbgmmakiimbbaa
open Go.RowKit
set_option linter.unusedVariables false
/-- a block of one cell -/
def One (w : World) (b : Nat) (t : TypeId) (x : Value) : Prop := w.heap[b]? = some (.cells #[x] t (0, 0))
theorem One.new (w : World) (t : TypeId) (x : Value) : One (w.alloc (.cells #[x] t)) w.heap.size t x := (MapKept.heap_alloc _ _).1
theorem One.lt {w : World} {b : Nat} {t : TypeId} {x : Value} (h : One w b t x) : b < w.heap.size := (Array.getElem?_eq_some_iff.1 h).1
theorem One.cell {w : World} {b : Nat} {t : TypeId} {x : Value} (h : One w b t x) : w.cell? ⟨b, 0, none⟩ = some x := by
  have e : w.heap[b]? = _ := h
  simp [World.cell?, e]
theorem One.frozen {w : World} {b : Nat} {t : TypeId} {x : Value} (h : One w b t x) : w.frozen? ⟨b, 0, none⟩ = false := by
  simp [World.frozen?, show w.heap[b]? = _ from h]
theorem One.later {w w' : World} {b : Nat} {t : TypeId} {x : Value} (h : One w b t x) (hb : Below w.heap.size w w') : One w' b t x := (hb.block b h.lt).trans h
theorem One.kept {w w' : World} {b : Nat} {t : TypeId} {x : Value} {row : Option Nat} (h : One w b t x) (hg : w.grownBy w' row) (hne : some b ≠ row) : One w' b t x := (hg.block b h.lt hne).trans h
theorem One.store {w : World} {b : Nat} {t : TypeId} {x : Value} (h : One w b t x) (y : Value) : One (w.setCell ⟨b, 0, none⟩ y) b t y := by
  obtain ⟨hlt, hk⟩ := Array.getElem?_eq_some_iff.1 h
  show (w.heap.modify b _)[b]? = _
  rw [Array.getElem?_eq_getElem (by rw [Array.size_modify]; exact hlt), Array.getElem_modify_self, hk]
  rfl
theorem One.not_row {w : World} {b : Nat} {t : TypeId} {x : Value} (h : One w b t x) {base size n : Nat} {e : TypeId} {v : Value} {xs : List Value} (hr : w.ownsRow base e size v n xs) (hne : t ≠ e) : v.ownBlock = none ∨ v.ownBlock ≠ some b := by
  rcases hr.2 with ⟨rfl, _⟩ | ⟨g, c, cur, rfl, _, hg, _⟩
  · exact .inl rfl
  · refine .inr fun e' => ?_
    obtain rfl : g = b := Option.some.inj e'
    have e1 : w.heap[g]? = some (.cells #[x] t (0, 0)) := h
    rw [hg] at e1
    simp at e1
    exact hne e1.2.symm
/-- a link is not touched by a store into a box of another type -/
theorem LinkAt.one {b B cap rcv hi k : Nat} {q : List Ms} {w w' : World} {t : TypeId} {x : Value} (h : LinkAt b B cap q rcv hi w) (hs : One w k t x) (ht : t ≠ 34) (ht2 : t ≠ 2) (hg : w.grownBy w' (some k)) (hne : b ≠ k) : LinkAt b B cap q rcv hi w' := by
  obtain ⟨hbB, hBw, first, R, rv, cs, h1, h2, h3, h4⟩ := h
  refine ⟨hbB, Nat.le_trans hBw hg.size, first, R, rv, cs, Six.kept h1 hg (fun e => hne (Option.some.inj e)), h2.kept hg (hs.not_row h2 ht), h3, fun i m hm => ?_⟩
  obtain ⟨v, hc, ho⟩ := h4 i m hm
  exact ⟨v, hc, ho.kept hg (hs.not_row ho ht2)⟩
theorem One.touch {b B cap rcv hi k : Nat} {q : List Ms} {w w' : World} {t : TypeId} {x : Value} (h : One w k t x) (hl : LinkAt b B cap q rcv hi w) (ht : Touch b (ringB b w) w w') (hk : k ≠ b) (hm : t ≠ 34) : One w' k t x := by
  obtain ⟨hbB, hBw, first, R, rv, cs, h1, h2, _⟩ := hl
  rw [ringB_of h1] at ht
  refine (ht.2 k h.lt hk (fun e => ?_)).trans h
  rcases h.not_row h2 hm with h' | h'
  · rw [h'] at e; cases e
  · exact h' e.symm
def oMs (zss : List (List Int)) (i : Nat) : Ms := ⟨⟨i, 0, 0, 0, 0⟩, zss[i]?.getD []⟩
/-- the messages from p on up to i -/
def oQ (zss : List (List Int)) (p i : Nat) : List Ms := (List.range' p (i - p)).map (oMs zss)
theorem oQ_length (zss : List (List Int)) (p i : Nat) : (oQ zss p i).length = i - p := by simp [oQ]
theorem oQ_snoc (zss : List (List Int)) {p i : Nat} (h : p ≤ i) : oQ zss p (i + 1) = oQ zss p i ++ [oMs zss i] := by
  unfold oQ
  rw [show i + 1 - p = (i - p) + 1 by omega, List.range'_concat, List.map_append]
  simp only [List.map_cons, List.map_nil, Nat.one_mul]
  rw [show p + (i - p) = i by omega]
theorem oQ_cons (zss : List (List Int)) {p i : Nat} (h : p < i) : oQ zss p i = oMs zss p :: oQ zss (p + 1) i := by
  unfold oQ
  rw [show i - p = (i - (p + 1)) + 1 by omega, List.range'_succ]
  rfl
theorem oQ_ok (zss : List (List Int)) (hz : ∀ zs ∈ zss, zs.length ≤ 1500) (c p i hi : Nat) (hc : c ≤ 1048576) (hp : p ≤ 60) (hh : hi ≤ 1048576) : LinkOk c (oQ zss p i) p hi := ⟨hc, by omega, hh, fun m hm => by
  simp only [oQ, List.mem_map] at hm
  obtain ⟨j, _, rfl⟩ := hm
  unfold oMs
  dsimp only
  cases hj : zss[j]? with
  | none => simp
  | some zs => have := hz zs (List.mem_of_getElem? hj); simp; omega⟩
set_option maxRecDepth 8000 in
set_option maxHeartbeats 2000000 in
theorem take_any (b B bl bn bv n₀ c : Nat) (zss : List (List Int)) (hz : ∀ zs ∈ zss, zs.length ≤ 1500) (hn : zss.length ≤ 60) (hc : c ≤ 1048576) (p i hi : Nat) (hpi : p < i) (hi1 : i ≤ zss.length) (hhi : hi ≤ 1048576) (zv : Value) (w : World)
    (h0 : n₀ ≤ b) (hv : RowsAt .i64 n₀ w zv zss) (hbn : b < bn) (hbl : b < bl) (hbv : bv < b) (hln : bl ≠ bn)
    (ol : One w bl 23 (.pointer (some ⟨b, 0, none⟩))) (on : One w bn 3 (.int .i64 p)) (ov : One w bv 49 zv) (h : LinkAt b B c (oQ zss p i) p hi w) :
    Calls Try.prog 19 #[.pointer (some ⟨bl, 0, none⟩), .pointer (some ⟨bn, 0, none⟩), .pointer (some ⟨bv, 0, none⟩)] w fun e w' => e = .returned (.bool true) ∧
      One w' bl 23 (.pointer (some ⟨b, 0, none⟩)) ∧ One w' bn 3 (.int .i64 ((p + 1 : Nat) : Int)) ∧ LinkAt b B c (oQ zss (p + 1) i) (p + 1) hi w' ∧ Below b w w' := by
  have hk := oQ_ok zss hz c p i hi hc (by omega) hhi
  rw [oQ_cons zss hpi] at h hk
  have hp : p < zss.length := by omega
  have hpz : (zss[p]?.getD []).length ≤ 1500 := by
    rw [List.getElem?_eq_getElem hp]
    exact hz _ (List.getElem_mem hp)
  have HR := Lib.hid (recv_ok b c p hi (oMs zss p) (oQ zss (p + 1) i) w h hk)
  have hsz : n₀ ≤ w.heap.size := Nat.le_trans h0 (Nat.le_of_lt h.lt)
  have H0 := Lib.hid h
  obtain ⟨za, zc, rfl⟩ := hv.value
  have HV := Lib.hid hv
  clear h hk hv hz
  have c1 := ol.cell
  have c2 := on.cell
  go_enter Try.func19, Try.ntmps19
  go_wp2_with fail
  refine HR.out.mono ?_
  rintro e w1 ⟨rv, rfl, o1, l1, t1, r1⟩
  have ol1 := ol.touch H0.out t1 (by omega) (by decide)
  have on1 := on.touch H0.out t1 (by omega) (by decide)
  have ov1 := ov.touch H0.out t1 (by omega) (by decide)
  have hV1 := HV.out.below (t1.1.mono h0)
  have B1 := Lib.hid t1.1
  have hs1 : w.heap.size ≤ w1.heap.size := t1.1.size
  clear HR H0 HV t1 r1 c1 c2 ol on ov
  unfold encM oMs at *
  dsimp only at *
  obtain ⟨ra, rc, rfl⟩ := own_value o1
  generalize hzp : zss[p]?.getD [] = zp at *
  have b2 := (Below.refl w1.heap.size w1).alloc (Nat.le_refl _) (.cells #[.int .i64 p, .int .i64 0, .int .i64 0, .int .i64 0, .int .i64 0, .slice ra zp.length rc] 34)
  have S2 := Six.new w1 34 (.int .i64 p) (.int .i64 0) (.int .i64 0) (.int .i64 0) (.int .i64 0) (.slice ra zp.length rc)
  have ol2 := ol1.later b2
  have on2 := on1.later b2
  have ov2 := ov1.later b2
  have O2 := Lib.hid (own_below o1 b2)
  have L2 := Lib.hid (l1.later b2)
  have hV2 := hV1.below (b2.mono (Nat.le_trans hsz hs1))
  have B2 := Lib.hid (B1.out.trans (b2.mono (Nat.le_of_lt l1.lt)))
  clear b2 ol1 on1 ov1 o1 l1 hV1 B1
  go_upto_region 2 with fail
  generalize w1.alloc (.cells #[.int .i64 p, .int .i64 0, .int .i64 0, .int .i64 0, .int .i64 0, .slice ra zp.length rc] 34) = w2 at *
  rcases hV2.form with ⟨_, h0'⟩ | ⟨g, off, cp, e0, hcp, hgn, hrow⟩
  · rw [h0'] at hp; simp at hp
  cases e0
  obtain ⟨ia, ic, hcell, hI⟩ := hrow p hp
  rw [hzp] at hcell hI
  have hI2 := Lib.hid (hI.grow (show n₀ ≤ w2.heap.size from Nat.le_trans h0 (Nat.le_of_lt L2.out.lt)))
  have i0 : (0 : Int) ≤ (p : Int) := by omega
  have i1 : (p : Int) < (zss.length : Int) := by omega
  have i2 : decide ((p : Int) < (zss.length : Int)) = true := by simp; omega
  obtain ⟨⟨_, _, _⟩, _, _, s5⟩ := S2.cells
  have cn := on2.cell
  have cv := ov2.cell
  have O2V := Lib.hid (IntsW.later (q := .i64) (A := w2) (B := w2) (.inr (ints_own O2.out)) (Below.refl _ _))
  have ON := Lib.hid on2
  have OL := Lib.hid ol2
  clear hV2 hrow hI S2 on2 ol2 ov2 O2
  refine wp_region_held_drew (S := fun w' => w'.cell? ⟨bn, 0, none⟩ = some (.int .i64 p) ∧ w'.cell? ⟨bv, 0, none⟩ = some (.slice (some ⟨g, off, none⟩) zss.length zc) ∧ w'.cell? ⟨w1.heap.size, 5, none⟩ = some (.slice ra zp.length rc) ∧ w'.cell? ⟨g, off + p, none⟩ = some (.slice ia zp.length ic) ∧ Below w2.heap.size w2 w') (by kernel_rfl) ?_ (fun hHeld => ?_)
  · exact ⟨cn, cv, s5, hcell, (Below.refl _ _).drew⟩
  refine wpAnyH_take (i := 0) (v := ?v1) rfl (by kernel_rfl) (by kernel_rfl) (by kernel_rfl) (fun _ _ _ h => h) (Or.inl ⟨by rfl, ?hy1⟩) (by assumption) ?rest1
  case hy1 => (intro w hSw; (try dsimp only at hSw); go_simp; (first | done | with_reducible rfl))
  simp only [Act.put, List.setIfInBounds_toArray, List.set_cons_zero, List.set_cons_succ, List.getElem_toArray, List.getElem_cons_zero]
  refine wpAnyH_take (i := 1) (v := ?v2) rfl (by kernel_rfl) (by kernel_rfl) (by kernel_rfl) (fun _ _ _ h => h) (Or.inl ⟨by rfl, ?hy2⟩) (by assumption) ?rest2
  case hy2 => (intro w hSw; (try dsimp only at hSw); go_simp; (first | done | with_reducible rfl))
  simp only [Act.put, List.setIfInBounds_toArray, List.set_cons_zero, List.set_cons_succ, List.getElem_toArray, List.getElem_cons_zero, List.getElem_cons_succ]
  refine wpAnyH_take (i := 2) (v := ?v3) rfl (by kernel_rfl) (by kernel_rfl) (by kernel_rfl) (fun _ _ _ h => h) (Or.inl ⟨by rfl, ?hy3⟩) (by assumption) ?rest3
  case hy3 => (intro w hSw; (try dsimp only at hSw); go_simp; (first | done | with_reducible rfl))
  simp only [Act.put, List.setIfInBounds_toArray, List.set_cons_zero, List.set_cons_succ, List.getElem_toArray, List.getElem_cons_zero, List.getElem_cons_succ]
  refine wpAnyH_take (i := 3) (v := ?v4) rfl (by kernel_rfl) (by kernel_rfl) (by kernel_rfl) (fun _ _ _ h => h) (Or.inl ⟨by rfl, ?hy4⟩) (by assumption) ?rest4
  case hy4 => (intro w hSw; (try dsimp only at hSw); go_simp; (first | done | with_reducible rfl))
  simp only [Act.put, List.setIfInBounds_toArray, List.set_cons_zero, List.set_cons_succ, List.getElem_toArray, List.getElem_cons_zero, List.getElem_cons_succ]
  refine wpAnyH_take (i := 4) (v := ?v5) rfl (by kernel_rfl) (by kernel_rfl) (by kernel_rfl) (fun _ _ _ h => h) (Or.inl ⟨by rfl, ?hy5⟩) (by assumption) ?rest5
  case hy5 => (intro w hSw; (try dsimp only at hSw); go_simp; (first | done | with_reducible rfl))
  simp only [Act.put, List.setIfInBounds_toArray, List.set_cons_zero, List.set_cons_succ, List.getElem_toArray, List.getElem_cons_zero, List.getElem_cons_succ]
  refine wpAnyH_take (i := 5) (v := ?v6) rfl (by kernel_rfl) (by kernel_rfl) (by kernel_rfl) (fun _ _ _ h => h) (Or.inl ⟨by rfl, ?hy6⟩) (by assumption) ?rest6
  case hy6 => (intro w hSw; (try dsimp only at hSw); go_simp; (first | done | with_reducible rfl))
  simp only [Act.put, List.setIfInBounds_toArray, List.set_cons_zero, List.set_cons_succ, List.getElem_toArray, List.getElem_cons_zero, List.getElem_cons_succ]
  refine wpAnyH_take (i := 6) (v := ?v7) rfl (by kernel_rfl) (by kernel_rfl) (by kernel_rfl) (fun _ _ _ h => h) (Or.inl ⟨by rfl, ?hy7⟩) (by assumption) ?rest7
  case hy7 => (intro w hSw; (try dsimp only at hSw); go_simp; (first | done | with_reducible rfl))
  simp only [Act.put, List.setIfInBounds_toArray, List.set_cons_zero, List.set_cons_succ, List.getElem_toArray, List.getElem_cons_zero, List.getElem_cons_succ]
  refine wpAnyH_take (i := 7) (v := ?v8) rfl (by kernel_rfl) (by kernel_rfl) (by kernel_rfl) (fun _ _ _ h => h) (Or.inl ⟨by rfl, ?hy8⟩) (by assumption) ?rest8
  case hy8 => (intro w hSw; (try dsimp only at hSw); go_simp; (first | done | with_reducible rfl))
  simp only [Act.put, List.setIfInBounds_toArray, List.set_cons_zero, List.set_cons_succ, List.getElem_toArray, List.getElem_cons_zero, List.getElem_cons_succ]
  refine wpAnyH_take (i := 8) (v := ?v9) rfl (by kernel_rfl) (by kernel_rfl) (by kernel_rfl) (fun _ _ _ h => h) (Or.inl ⟨by rfl, ?hy9⟩) (by assumption) ?rest9
  case hy9 => (intro w hSw; (try dsimp only at hSw); go_simp; (first | done | with_reducible rfl))
  simp only [Act.put, List.setIfInBounds_toArray, List.set_cons_zero, List.set_cons_succ, List.getElem_toArray, List.getElem_cons_zero, List.getElem_cons_succ]
  refine wpAnyH_take (i := 9) (v := ?v10) rfl (by kernel_rfl) (by kernel_rfl) (by kernel_rfl) (fun _ _ _ h => h) (Or.inl ⟨by rfl, ?hy10⟩) (by assumption) ?rest10
  case hy10 => (intro w hSw; (try dsimp only at hSw); go_simp; (first | done | with_reducible rfl))
  simp only [Act.put, List.setIfInBounds_toArray, List.set_cons_zero, List.set_cons_succ, List.getElem_toArray, List.getElem_cons_zero, List.getElem_cons_succ]
  refine wpAnyH_take (i := 10) (v := ?v11) rfl (by kernel_rfl) (by kernel_rfl) (by kernel_rfl) (fun _ _ _ h => h) (Or.inl ⟨by rfl, ?hy11⟩) (by assumption) ?rest11
  case hy11 => (intro w hSw; (try dsimp only at hSw); go_simp; (first | done | with_reducible rfl))
  simp only [Act.put, List.setIfInBounds_toArray, List.set_cons_zero, List.set_cons_succ, List.getElem_toArray, List.getElem_cons_zero, List.getElem_cons_succ]
  refine wpAnyH_take (i := 11) (v := ?v12) rfl (by kernel_rfl) (by kernel_rfl) (by kernel_rfl) (fun _ _ _ h => h) (Or.inl ⟨by rfl, ?hy12⟩) (by assumption) ?rest12
  case hy12 => (intro w hSw; (try dsimp only at hSw); go_simp; (first | done | with_reducible rfl))
  simp only [Act.put, List.setIfInBounds_toArray, List.set_cons_zero, List.set_cons_succ, List.getElem_toArray, List.getElem_cons_zero, List.getElem_cons_succ]
  refine wpAnyH_take (i := 12) (v := ?v13) rfl (by kernel_rfl) (by kernel_rfl) (by kernel_rfl) (fun _ _ _ h => h) (Or.inl ⟨by rfl, ?hy13⟩) (by assumption) ?rest13
  case hy13 => (intro w hSw; (try dsimp only at hSw); go_simp; (first | done | with_reducible rfl))
  simp only [Act.put, List.setIfInBounds_toArray, List.set_cons_zero, List.set_cons_succ, List.getElem_toArray, List.getElem_cons_zero, List.getElem_cons_succ]
  refine wpAnyH_take (i := 13) (v := ?v14) rfl (by kernel_rfl) (by kernel_rfl) (by kernel_rfl) (fun _ _ _ h => h) (Or.inl ⟨by rfl, ?hy14⟩) (by assumption) ?rest14
  case hy14 => (intro w hSw; (try dsimp only at hSw); go_simp; (first | done | with_reducible rfl))
  simp only [Act.put, List.setIfInBounds_toArray, List.set_cons_zero, List.set_cons_succ, List.getElem_toArray, List.getElem_cons_zero, List.getElem_cons_succ]
  refine wpAnyH_take (i := 14) (v := ?v15) rfl (by kernel_rfl) (by kernel_rfl) (by kernel_rfl) (fun _ _ _ h => h) (Or.inl ⟨by rfl, ?hy15⟩) (by assumption) ?rest15
  case hy15 => (intro w hSw; (try dsimp only at hSw); go_simp; (first | done | with_reducible rfl))
  simp only [Act.put, List.setIfInBounds_toArray, List.set_cons_zero, List.set_cons_succ, List.getElem_toArray, List.getElem_cons_zero, List.getElem_cons_succ]
  refine wpAnyH_ready (rs := [15]) (by kernel_rfl) (by simp) ?_
  refine AllReadyH.cons rfl (fun K hK => ?_) AllReadyH.nil
  simp only [List.getElem_toArray, List.getElem_cons_zero, List.getElem_cons_succ]
  go_simp
  go_at_call 20
  obtain ⟨h_0, h_1, h_2, h_3, h_B⟩ := hHeld
  refine (refSame_w (.slice ra zp.length rc) (.slice ia zp.length ic) zp zp (by omega) (by omega) _ ((O2V.out.below h_B).grow h_B.size) ((hI2.out.below h_B).grow h_B.size)).mono ?_
  rintro e w_b3 ⟨rfl, b3⟩
  rw [sameL_refl]
  go_wp2_with fail
  refine hK.out _ _ ⟨cell_step b3 h_0, cell_step b3 h_1, cell_step b3 h_2, cell_step b3 h_3, below_step h_B b3⟩ (fun hHeld => ?_)
  clear hK K h_0 h_1 h_2 h_3 h_B
  try simp only [Act.put, List.setIfInBounds_toArray, List.set_cons_zero, List.set_cons_succ, List.getElem_toArray, List.getElem_cons_zero, List.getElem_cons_succ]
  refine wpAnyH_take (i := 16) (v := ?v16) rfl (by kernel_rfl) (by kernel_rfl) (by kernel_rfl) (fun _ _ _ h => h) (Or.inl ⟨by rfl, ?hy16⟩) (by assumption) ?rest16
  case hy16 => (intro w hSw; (try dsimp only at hSw); go_simp; (first | done | with_reducible rfl))
  simp only [Act.put, List.setIfInBounds_toArray, List.set_cons_zero, List.set_cons_succ, List.getElem_toArray, List.getElem_cons_zero, List.getElem_cons_succ]
  refine wpAnyH_take (i := 17) (v := ?v17) rfl (by kernel_rfl) (by kernel_rfl) (by kernel_rfl) (fun _ _ _ h => h) (Or.inl ⟨by rfl, ?hy17⟩) (by assumption) ?rest17
  case hy17 => (intro w hSw; (try dsimp only at hSw); go_simp; (first | done | with_reducible rfl))
  simp only [Act.put, List.setIfInBounds_toArray, List.set_cons_zero, List.set_cons_succ, List.getElem_toArray, List.getElem_cons_zero, List.getElem_cons_succ]
  refine wpAnyH_done (by kernel_rfl) ?_ _
  obtain ⟨_, _, _, _, hBZ⟩ := hHeld
  have ON3 := ON.out.later hBZ
  have OL3 := Lib.hid (OL.out.later hBZ)
  have L3 := Lib.hid (L2.out.later hBZ)
  have B3 := Lib.hid (B2.out.trans (hBZ.mono (Nat.le_of_lt L2.out.lt)))
  clear hBZ ON OL L2 B2 cn cv s5 hcell O2V hI2
  have cn := ON3.cell
  have fn := ON3.frozen
  have wp1 : IntKind.i64.wrap ((p : Int) + 1) = ((p + 1 : Nat) : Int) := (IntWalk.i64_in _ (by omega)).trans (by omega)
  have wp2 : (p : Int) + 1 = ((p + 1 : Nat) : Int) := by omega
  generalize hp1 : p + 1 = p1 at *
  have HP1 := Lib.hid hp1
  clear hp1
  have HON3 := Lib.hid ON3
  clear ON3
  go_wp2_with fail
  go_ret
  have hp1 := HP1.out
  subst hp1
  exact ⟨rfl, OL3.out.kept (grown_set _ bn 0 _) (fun e => hln (Option.some.inj e)), HON3.out.store _, L3.out.one HON3.out (by decide) (by decide) (grown_set _ bn 0 _) (by omega), below_set B3.out (Nat.le_of_lt hbn)⟩
end Go.Proofs.Ytgbgmmakiimbbaa
