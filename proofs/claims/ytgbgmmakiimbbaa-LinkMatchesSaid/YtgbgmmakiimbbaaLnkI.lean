/- Layer 18: all messages of a link. -/
import Derived.Test.YtgbgmmakiimbbaaLnkG
namespace Go.Proofs.Ytgbgmmakiimbbaa
open Go.RowKit
set_option linter.unusedVariables false
/-- a list of messages of the call's own -/
def MsgsAt (N : Nat) (w : World) (v : Value) (ms : List Ms) : Prop := ∃ cs, w.ownsRow N 34 6 v ms.length cs ∧ ∀ i m, ms[i]? = some m → MsgAt w N cs i m
theorem MsgAt.front {w : World} {N j i : Nat} {cs ns : List Value} {m : Ms} (h : MsgAt w N cs i m) (hl : cs.length = j * 6) (hi : i < j) : MsgAt w N (cs ++ ns) i m := by
  obtain ⟨v, ⟨m0, m1, m2, m3, m4, m5⟩, ho⟩ := h
  have a (k : Nat) (hk : k < 6) : (cs ++ ns)[i * 6 + k]? = cs[i * 6 + k]? := List.getElem?_append_left (by omega)
  have a0 := a 0 (by omega)
  rw [Nat.add_zero] at a0
  exact ⟨v, ⟨a0.trans m0, (a 1 (by omega)).trans m1, (a 2 (by omega)).trans m2, (a 3 (by omega)).trans m3, (a 4 (by omega)).trans m4, (a 5 (by omega)).trans m5⟩, ho⟩
theorem msg_last {w : World} {N j : Nat} {cs : List Value} {t : Tg} {v : Value} {zs : List Int} (hl : cs.length = j * 6) (ho : w.ownsRow N 2 1 v zs.length (zs.map (Value.int .i64))) :
    MsgAt w N (cs ++ [.int .i64 t.a, .int .i64 t.b, .int .i64 t.c, .int .i64 t.d, .int .i64 t.e, v]) j ⟨t, zs⟩ := by
  have a (k : Nat) (hk : k < 6) : (cs ++ [.int .i64 t.a, .int .i64 t.b, .int .i64 t.c, .int .i64 t.d, .int .i64 t.e, v])[j * 6 + k]? = [.int .i64 t.a, .int .i64 t.b, .int .i64 t.c, .int .i64 t.d, .int .i64 t.e, v][k]? := by
    rw [List.getElem?_append_right (by omega), hl, show j * 6 + k - j * 6 = k by omega]
  exact ⟨v, ⟨a 0 (by omega), a 1 (by omega), a 2 (by omega), a 3 (by omega), a 4 (by omega), a 5 (by omega)⟩, ho⟩
set_option maxHeartbeats 2000000 in
theorem messages_any {B : Nat} (b cap rcv hi : Nat) (q : List Ms) (w : World) (h : LinkAt b B cap q rcv hi w) (hk : LinkOk cap q rcv hi) :
    Calls Try.prog 24 #[.pointer (some ⟨b, 0, none⟩)] w fun e w' => ∃ v, e = .returned v ∧ MsgsAt w.heap.size w' v q ∧ Below w.heap.size w w' := by
  have hqc := h.le
  have hL := linkLen_any b cap rcv hi q w h hk
  obtain ⟨hbB, hBw, first, R, rv, cs, o1, o2, ⟨o3, o4, o5⟩, o6⟩ := h
  obtain ⟨k1, k2, k3, k4⟩ := hk
  have hbl := Six.lt o1
  have O1 := Lib.hid o1
  have O2 := Lib.hid o2
  have O6 := Lib.hid o6
  have HK4 := Lib.hid k4
  clear o1 o2 o6 k4
  go_enter Try.func24, Try.ntmps24
  go_wp2_with fail
  refine hL.mono ?_
  rintro e w1 ⟨rfl, rfl⟩
  have bd : Below w.heap.size w w.drew := (Below.refl _ _).drew
  go_wp2_with fail
  clear hL
  go_loopw [3, 4, 7] (fun all _ i wr => ∃ (j : Nat) (ds : List Value), j ≤ q.length ∧ i = .int .i64 j ∧ wr.ownsRow w.heap.size 34 6 all j ds ∧ Below w.heap.size w wr ∧ ∀ i m, i < j → q[i]? = some m → MsgAt wr w.heap.size ds i m) (fun _ _ i _ => q.length - (intOf i).toNat)
  case atStart => exact ⟨0, [], Nat.zero_le _, rfl, World.ownsRow_nil _ _ _ _, bd, fun i m hi => absurd hi (Nat.not_lt_zero _)⟩
  case round =>
    obtain ⟨j, ds, hj, rfl, hrow, hB, hms⟩ := hrel
    by_cases hlt : j < q.length
    · have hdec : decide ((j : Int) < (q.length : Int)) = true := by simp; omega
      have hR : 0 < R := by omega
      obtain ⟨m, hm⟩ : ∃ m, q[j]? = some m := ⟨_, List.getElem?_eq_getElem hlt⟩
      have hmz := HK4.out m (List.mem_of_getElem? hm)
      obtain ⟨g, rc, rfl, hgb, hgw⟩ := own_some O2.out hR
      obtain ⟨v, ⟨m0, m1, m2, m3, m4, m5⟩, hv⟩ := (O6.out j m hm).later hB
      have hOr := own_below O2.out hB
      have hLr : LinkB wr b cap _ first _ rcv hi := Six.later O1.out hB
      have hpl := Nat.mod_lt (first + j) hR
      obtain ⟨va, vc, rfl⟩ := own_value hv
      have hPL := Lib.hid (fun (W : World) (hb : Below wr.heap.size wr W) => place_any b cap (some ⟨g, 0, none⟩) R rc first _ rcv hi j hR (by omega) W (Six.later hLr hb))
      generalize (first + j) % R = p at *
      have x0 := (hOr.cellAt (p * 6) (by omega)).trans m0
      have x1 := (hOr.cellAt (p * 6 + 1) (by omega)).trans m1
      have x2 := (hOr.cellAt (p * 6 + 2) (by omega)).trans m2
      have x3 := (hOr.cellAt (p * 6 + 3) (by omega)).trans m3
      have x4 := (hOr.cellAt (p * 6 + 4) (by omega)).trans m4
      have x5 := (hOr.cellAt (p * 6 + 5) (by omega)).trans m5
      obtain ⟨⟨_, c1, _⟩, _, _, _⟩ := Six.cells hLr
      obtain ⟨⟨ta, tb, tc, td, te⟩, zs⟩ := m
      dsimp only at x0 x1 x2 x3 x4 x5 hv hmz
      have hdl : ds.length = j * 6 := hrow.1
      have i0 : (0 : Int) ≤ (p : Int) := by omega
      have i1 : (p : Int) < (R : Int) := by omega
      have HROW := Lib.hid hrow
      have HB := Lib.hid hB
      have HMS := Lib.hid hms
      have HM := Lib.hid hm
      have HDL := Lib.hid hdl
      have hbl2 : b < wr.heap.size := Nat.lt_of_lt_of_le hbl hB.size
      have HV := Lib.hid (show IntsW .i64 wr.heap.size wr (.slice va zs.length vc) zs from Or.inr (ints_own hv))
      clear m0 m1 m2 m3 m4 m5 hv hrow hB hms hOr hLr hm hdl
      go_upto_region 5 with fail
      refine wp_region_held_drew (S := fun w' => w'.cell? ⟨b, 1, none⟩ = some (.slice (some ⟨g, 0, none⟩) R rc) ∧ w'.cell? ⟨g, p * 6, none⟩ = some (.int .i64 ta) ∧ w'.cell? ⟨g, p * 6 + 1, none⟩ = some (.int .i64 tb) ∧ w'.cell? ⟨g, p * 6 + 2, none⟩ = some (.int .i64 tc) ∧ w'.cell? ⟨g, p * 6 + 3, none⟩ = some (.int .i64 td) ∧ w'.cell? ⟨g, p * 6 + 4, none⟩ = some (.int .i64 te) ∧ w'.cell? ⟨g, p * 6 + 5, none⟩ = some (.slice va zs.length vc)) (by kernel_rfl) ?_ (fun hHeld => ?_)
      · exact ⟨c1, x0, x1, x2, x3, x4, x5⟩
      refine wpAnyH_take (i := 0) (v := ?v1) rfl (by kernel_rfl) (by kernel_rfl) (by kernel_rfl) (fun _ _ _ h => h) (Or.inl ⟨by rfl, ?hy1⟩) (by assumption) ?rest1
      case hy1 => (intro w hSw; (try dsimp only at hSw); go_simp; (first | done | with_reducible rfl))
      simp only [Act.put, List.setIfInBounds_toArray, List.set_cons_zero, List.set_cons_succ, List.getElem_toArray, List.getElem_cons_zero]
      refine wpAnyH_take (i := 1) (v := ?v2) rfl (by kernel_rfl) (by kernel_rfl) (by kernel_rfl) (fun _ _ _ h => h) (Or.inl ⟨by rfl, ?hy2⟩) (by assumption) ?rest2
      case hy2 => (intro w hSw; (try dsimp only at hSw); go_simp; (first | done | with_reducible rfl))
      simp only [Act.put, List.setIfInBounds_toArray, List.set_cons_zero, List.set_cons_succ, List.getElem_toArray, List.getElem_cons_zero, List.getElem_cons_succ]
      refine wpAnyH_take (i := 2) (v := ?v3) rfl (by kernel_rfl) (by kernel_rfl) (by kernel_rfl) (fun _ _ _ h => h) (Or.inl ⟨by rfl, ?hy3⟩) (by assumption) ?rest3
      case hy3 => (intro w hSw; (try dsimp only at hSw); go_simp; (first | done | with_reducible rfl))
      simp only [Act.put, List.setIfInBounds_toArray, List.set_cons_zero, List.set_cons_succ, List.getElem_toArray, List.getElem_cons_zero, List.getElem_cons_succ]
      refine wpAnyH_take (i := 3) (v := ?v4) rfl (by kernel_rfl) (by kernel_rfl) (by kernel_rfl) (fun _ _ _ h => h) (Or.inl ⟨by rfl, ?hy4⟩) (by assumption) ?rest4
      case hy4 => (intro w hSw; (try dsimp only at hSw); go_simp; (first | done | with_reducible rfl))
      simp only [Act.put, List.setIfInBounds_toArray, List.set_cons_zero, List.set_cons_succ, List.getElem_toArray, List.getElem_cons_zero, List.getElem_cons_succ]
      refine wpAnyH_take (i := 4) (v := ?v5) rfl (by kernel_rfl) (by kernel_rfl) (by kernel_rfl) (fun _ _ _ h => h) (Or.inl ⟨by rfl, ?hy5⟩) (by assumption) ?rest5
      case hy5 => (intro w hSw; (try dsimp only at hSw); go_simp; (first | done | with_reducible rfl))
      simp only [Act.put, List.setIfInBounds_toArray, List.set_cons_zero, List.set_cons_succ, List.getElem_toArray, List.getElem_cons_zero, List.getElem_cons_succ]
      refine wpAnyH_take (i := 5) (v := ?v6) rfl (by kernel_rfl) (by kernel_rfl) (by kernel_rfl) (fun _ _ _ h => h) (Or.inl ⟨by rfl, ?hy6⟩) (by assumption) ?rest6
      case hy6 => (intro w hSw; (try dsimp only at hSw); go_simp; (first | done | with_reducible rfl))
      simp only [Act.put, List.setIfInBounds_toArray, List.set_cons_zero, List.set_cons_succ, List.getElem_toArray, List.getElem_cons_zero, List.getElem_cons_succ]
      refine wpAnyH_take (i := 6) (v := ?v7) rfl (by kernel_rfl) (by kernel_rfl) (by kernel_rfl) (fun _ _ _ h => h) (Or.inl ⟨by rfl, ?hy7⟩) (by assumption) ?rest7
      case hy7 => (intro w hSw; (try dsimp only at hSw); go_simp; (first | done | with_reducible rfl))
      simp only [Act.put, List.setIfInBounds_toArray, List.set_cons_zero, List.set_cons_succ, List.getElem_toArray, List.getElem_cons_zero, List.getElem_cons_succ]
      refine wpAnyH_ready (rs := [7]) (by kernel_rfl) (by simp) ?_
      refine AllReadyH.cons rfl (fun K hK => ?_) AllReadyH.nil
      simp only [List.getElem_toArray, List.getElem_cons_zero, List.getElem_cons_succ]
      go_simp
      go_at_call 31
      refine (hPL.out _ (Below.refl _ _).drew).mono ?_
      rintro e w5 ⟨rfl, rfl⟩
      have b5 : Below wr.heap.size wr wr.drew.drew := (Below.refl _ _).drew.drew
      go_wp2_with fail
      refine hK.out _ _ ⟨cell_step b5 c1, cell_step b5 x0, cell_step b5 x1, cell_step b5 x2, cell_step b5 x3, cell_step b5 x4, cell_step b5 x5⟩ (fun hHeld => ?_)
      clear hK K
      try simp only [Act.put, List.setIfInBounds_toArray, List.set_cons_zero, List.set_cons_succ, List.getElem_toArray, List.getElem_cons_zero, List.getElem_cons_succ]
      refine wpAnyH_take (i := 8) (v := ?v8) rfl (by kernel_rfl) (by kernel_rfl) (by kernel_rfl) (fun _ _ _ h => h) (Or.inl ⟨by rfl, ?hy8⟩) (by assumption) ?rest8
      case hy8 => (intro w hSw; (try dsimp only at hSw); go_simp; (first | done | with_reducible rfl))
      simp only [Act.put, List.setIfInBounds_toArray, List.set_cons_zero, List.set_cons_succ, List.getElem_toArray, List.getElem_cons_zero, List.getElem_cons_succ]
      refine wpAnyH_take (i := 9) (v := ?v9) rfl (by kernel_rfl) (by kernel_rfl) (by kernel_rfl) (fun _ _ _ h => h) (Or.inl ⟨by rfl, ?hy9⟩) (by assumption) ?rest9
      case hy9 => (intro w hSw; (try dsimp only at hSw); go_simp; (first | done | with_reducible rfl))
      simp only [Act.put, List.setIfInBounds_toArray, List.set_cons_zero, List.set_cons_succ, List.getElem_toArray, List.getElem_cons_zero, List.getElem_cons_succ]
      refine wpAnyH_ready (rs := [10]) (by kernel_rfl) (by simp) ?_
      refine AllReadyH.cons rfl (fun K hK => ?_) AllReadyH.nil
      simp only [List.getElem_toArray, List.getElem_cons_zero, List.getElem_cons_succ]
      go_simp
      go_at_call 30
      refine (clone_any ⟨ta, tb, tc, td, te⟩ (.slice va zs.length vc) zs hmz wr.heap.size _ b5.size (HV.out.below b5)).mono ?_
      rintro e w7 ⟨u, rfl, hu, b7⟩
      unfold encM
      have b8 : Below wr.heap.size wr w7 := b5.trans (b7.mono b5.size)
      have HU := Lib.hid (own_base (b' := w.heap.size) hu (Nat.le_trans HB.out.size b5.size))
      obtain ⟨ua, uc, rfl⟩ := own_value hu
      clear hu b7
      go_wp2_with fail
      refine hK.out _ _ ⟨cell_step b8 c1, cell_step b8 x0, cell_step b8 x1, cell_step b8 x2, cell_step b8 x3, cell_step b8 x4, cell_step b8 x5⟩ (fun hHeld => ?_)
      clear hK K
      try simp only [Act.put, List.setIfInBounds_toArray, List.set_cons_zero, List.set_cons_succ, List.getElem_toArray, List.getElem_cons_zero, List.getElem_cons_succ]
      refine wpAnyH_ready (rs := [11]) (by kernel_rfl) (by simp) ?_
      refine AllReadyH.cons rfl (fun K hK => ?_) AllReadyH.nil
      simp only [List.getElem_toArray, List.getElem_cons_zero, List.getElem_cons_succ]
      go_simp
      have AL := (Below.refl w7.heap.size w7).alloc (Nat.le_refl _) (.cells #[.int .i64 ta, .int .i64 tb, .int .i64 tc, .int .i64 td, .int .i64 te, .slice ua zs.length uc] 34)
      have b9 := b8.trans (AL.mono b8.size)
      refine hK.out _ _ ⟨cell_step b9 c1, cell_step b9 x0, cell_step b9 x1, cell_step b9 x2, cell_step b9 x3, cell_step b9 x4, cell_step b9 x5⟩ (fun hHeld => ?_)
      clear hK K
      try simp only [Act.put, List.setIfInBounds_toArray, List.set_cons_zero, List.set_cons_succ, List.getElem_toArray, List.getElem_cons_zero, List.getElem_cons_succ]
      refine wpAnyH_ready (rs := [12]) (by kernel_rfl) (by simp) ?_
      refine AllReadyH.cons rfl (fun K hK => ?_) AllReadyH.nil
      simp only [List.getElem_toArray, List.getElem_cons_zero, List.getElem_cons_succ]
      try simp only [Act.put, List.setIfInBounds_toArray, List.set_cons_zero, List.set_cons_succ]
      have O7 := Lib.hid (own_below HROW.out b8)
      have B7 := Lib.hid (HB.out.trans (b8.mono HB.out.size))
      refine step_one_lies (a := ⟨_, _⟩) (W := w7) (g := w7.heap.size) (news := #[.int .i64 ta, .int .i64 tb, .int .i64 tc, .int .i64 td, .int .i64 te, .slice ua zs.length uc]) elemM (by rfl) _ _ (by rfl) (by rfl) (by rfl) rfl rfl O7.out rfl ?_ ?_ ?_ ?_ ?_
      · simp [Value.oneCell']
      · unfold maxLen; omega
      · omega
      · exact B7.out.size
      intro b' cap' w9 ho9 hg9 hat9
      have BX : Below w.heap.size w7 w9 := (Below.refl w.heap.size w7).grown hg9 B7.out.size (fun k e => (O7.out.lt k e).1)
      have HO9 := Lib.hid ho9
      have hms9 : ∀ i m, i < j + 1 → q[i]? = some m → MsgAt w9 w.heap.size (ds ++ [.int .i64 ta, .int .i64 tb, .int .i64 tc, .int .i64 td, .int .i64 te, .slice ua zs.length uc]) i m := fun i m hi hm => by
        by_cases hij : i = j
        · subst hij
          rw [HM.out] at hm
          cases hm
          exact msg_last (t := ⟨ta, tb, tc, td, te⟩) HDL.out (HU.out.kept hg9 (type_apart HU.out O7.out (by decide)))
        · obtain ⟨v, hc, ho⟩ := (HMS.out i m (by omega) hm).later b8
          exact MsgAt.front ⟨v, hc, ho.kept hg9 (type_apart ho O7.out (by decide))⟩ HDL.out (by omega)
      have HMS9 := Lib.hid hms9
      have HB9 := Lib.hid (B7.out.trans BX)
      refine hK.out _ _ ⟨(BX.cell (p := ⟨b, 1, none⟩) hbl).trans (cell_step b8 c1), (BX.cell (p := ⟨g, p * 6, none⟩) hgw).trans (cell_step b8 x0), (BX.cell (p := ⟨g, p * 6 + 1, none⟩) hgw).trans (cell_step b8 x1), (BX.cell (p := ⟨g, p * 6 + 2, none⟩) hgw).trans (cell_step b8 x2), (BX.cell (p := ⟨g, p * 6 + 3, none⟩) hgw).trans (cell_step b8 x3), (BX.cell (p := ⟨g, p * 6 + 4, none⟩) hgw).trans (cell_step b8 x4), (BX.cell (p := ⟨g, p * 6 + 5, none⟩) hgw).trans (cell_step b8 x5)⟩ (fun hHeld => ?_)
      clear hK K ho9 hg9 hat9 hms9 BX
      try simp only [Act.put, List.setIfInBounds_toArray, List.set_cons_zero, List.set_cons_succ]
      refine wpAnyH_take (i := 13) (v := ?v10) rfl (by kernel_rfl) (by kernel_rfl) (by kernel_rfl) (fun _ _ _ h => h) (Or.inl ⟨by rfl, ?hy10⟩) (by assumption) ?rest10
      case hy10 => (intro w hSw; (try dsimp only at hSw); go_simp; (first | done | with_reducible rfl))
      simp only [Act.put, List.setIfInBounds_toArray, List.set_cons_zero, List.set_cons_succ, List.getElem_toArray, List.getElem_cons_zero, List.getElem_cons_succ]
      refine wpAnyH_done (by kernel_rfl) ?_ _
      clear x0 x1 x2 x3 x4 x5 c1 b5 b8 b9 AL HU HMS HM O7 B7 HROW
      have wj : IntKind.i64.wrap ((j : Int) + 1) = j + 1 := IntWalk.i64_in _ (by omega)
      go_wp2_with fail
      go_roundw
      case rel => exact ⟨j + 1, _, by omega, by go_num, HO9.out, HB9.out, HMS9.out⟩
      case measure => simp [intOf]; omega
    · have hje : j = q.length := by omega
      subst hje
      have hdec : decide ((q.length : Int) < (q.length : Int)) = false := by simp
      have HROW := Lib.hid hrow
      have HMS := Lib.hid hms
      have HB := Lib.hid hB
      clear hrow hms hB
      go_wp2_with fail
      go_ret
      refine ⟨_, rfl, ⟨ds, HROW.out, fun i m hm => HMS.out i m ?_ hm⟩, HB.out⟩
      apply Nat.lt_of_not_le; intro hge
      rw [List.getElem?_eq_none hge] at hm; cases hm
end Go.Proofs.Ytgbgmmakiimbbaa
