/- Layer 18: a greater ring. -/
import Derived.Test.YtgbgmmakiimbbaaLnkF
import Derived.Deep.RegionHeld3
import Derived.LoopN
namespace Go.Proofs.Ytgbgmmakiimbbaa
open Go.RowKit
set_option linter.unusedVariables false
/-- a link with room for one message more -/
def LinkRoom (ok : Nat → Prop) (b B cap : Nat) (q : List Ms) (rcv hi : Nat) (w : World) : Prop :=
  ∃ first R rv cs, LinkB w b cap rv first (rcv + q.length) rcv hi ∧ w.ownsRow (b + 1) 34 6 rv R cs ∧ (q.length < R ∧ R ≤ cap ∧ first < R ∧ ∀ k, rv.ownBlock = some k → ok k) ∧ ∀ i m, q[i]? = some m → MsgAt w B cs ((first + i) % R) m
set_option maxHeartbeats 2000000 in
theorem grow_any {B : Nat} (b cap rcv hi first R : Nat) (rv : Value) (cs : List Value) (q : List Ms) (w : World) (hbB : b < B) (h1 : LinkB w b cap rv first (rcv + q.length) rcv hi) (h2 : w.ownsRow (b + 1) 34 6 rv R cs) (hq : q.length = R) (hRc : R < cap)
    (hf : first < R ∨ first = 0) (h4 : ∀ i m, q[i]? = some m → MsgAt w B cs ((first + i) % R) m) (hk : LinkOk cap q rcv hi) :
    Calls Try.prog 29 #[.pointer (some ⟨b, 0, none⟩)] w fun e w' => (∃ v, e = .returned v) ∧ LinkRoom (fun k => w.heap.size ≤ k) b B cap q rcv hi w' ∧ w.grownBy w' (some b) := by
  obtain ⟨k1, k2, k3, k4⟩ := hk
  have hbl := Six.lt h1
  obtain ⟨ra, rc, rfl⟩ := own_value h2
  obtain ⟨M, hM⟩ : ∃ M, M = min cap (2 * R + 1) := ⟨_, rfl⟩
  have w1 : IntKind.i64.wrap ((2 : Int) * R) = 2 * R := IntWalk.i64_in _ (by omega)
  have w2 : IntKind.i64.wrap ((2 : Int) * R + 1) = 2 * R + 1 := IntWalk.i64_in _ (by omega)
  have wm : (if 2 * (R : Int) + 1 < (cap : Int) then 2 * (R : Int) + 1 else (cap : Int)) = (M : Int) := by
    by_cases hh : 2 * (R : Int) + 1 < (cap : Int)
    · rw [if_pos hh]; omega
    · rw [if_neg hh]; omega
  have hM1 : R < M := by omega
  have hM2 : M ≤ cap := by omega
  have HM := Lib.hid hM
  clear hM
  obtain ⟨⟨c0, c1, c2⟩, c3, c4, c5⟩ := Six.cells h1
  have hmk := run_make_elem elemM .i64 .i64 M (by omega) (by omega)
  have H1 := Lib.hid h1
  have H2 := Lib.hid h2
  have H4 := Lib.hid h4
  clear h1 h2 h4 c3 c4 c5 c2
  go_enter Try.func29, Try.ntmps29
  go_wp2_with fail
  go_region
  go_wp2_with fail
  have b1 : Below w.heap.size w (w.alloc (.cells (madeCells #[.int .i64 0, .int .i64 0, .int .i64 0, .int .i64 0, .int .i64 0, .slice none 0 0] (M * 6)) 34)).drew := ((Below.refl _ _).alloc (Nat.le_refl _) _).drew
  have N1 : World.ownsRow (w.alloc (.cells (madeCells #[.int .i64 0, .int .i64 0, .int .i64 0, .int .i64 0, .int .i64 0, .slice none 0 0] (M * 6)) 34)).drew w.heap.size 34 6 (.slice (some ⟨w.heap.size, 0, none⟩) M M) M (madeCells #[.int .i64 0, .int .i64 0, .int .i64 0, .int .i64 0, .int .i64 0, .slice none 0 0] (M * 6)).toList := own_below (World.ownsRow_lit (w := w) (e := 34) (size := 6) (base := w.heap.size) _ M (Nat.le_refl _) (by unfold maxLen; omega) (size_madeCells _ _)) (Below.refl _ _).drew
  clear hmk wm w1 w2 c0 c1
  have L1 : LinkB _ b cap _ first _ rcv hi := Six.later H1.out b1
  have O1 := Lib.hid (own_below H2.out b1)
  have M1 := Lib.hid (fun i m hm => (H4.out i m hm).later b1)
  have B1 := Lib.hid b1
  have hs1 : w.heap.size < (w.alloc (.cells (madeCells #[.int .i64 0, .int .i64 0, .int .i64 0, .int .i64 0, .int .i64 0, .slice none 0 0] (M * 6)) 34)).drew.heap.size := Nat.lt_of_lt_of_eq (by simp) rfl
  clear b1
  generalize (madeCells #[.int .i64 0, .int .i64 0, .int .i64 0, .int .i64 0, .int .i64 0, .slice none 0 0] (M * 6)).toList = cs0 at N1
  generalize (w.alloc (.cells (madeCells #[.int .i64 0, .int .i64 0, .int .i64 0, .int .i64 0, .int .i64 0, .slice none 0 0] (M * 6)) 34)).drew = W1 at *
  refine (len_any b cap _ first q.length rcv hi (by omega) W1 L1).mono ?_
  rintro e W2 ⟨rfl, rfl⟩
  have b2 : Below W1.heap.size W1 W1.drew := (Below.refl _ _).drew
  have L2 := Lib.hid (Six.later L1 b2)
  have O2 := Lib.hid (own_below O1.out b2)
  have M2 := Lib.hid (fun i m hm => (M1.out i m hm).later b2)
  have N2 := Lib.hid (own_below N1 b2)
  have B2 := Lib.hid (B1.out.drew)
  have hs2 : w.heap.size < W1.drew.heap.size := hs1
  clear L1 O1 M1 N1 B1 b2 H1 H4
  generalize W1.drew = W2 at *
  go_wp2_with fail
  go_loopw [4, 22] (fun _ i wr => ∃ (j : Nat) (cs' : List Value), j ≤ R ∧ i = .int .i64 j ∧ wr.ownsRow w.heap.size 34 6 (.slice (some ⟨w.heap.size, 0, none⟩) M M) M cs' ∧ W2.grownBy wr (some w.heap.size) ∧ ∀ i m, i < j → q[i]? = some m → MsgAt wr B cs' i m) (fun _ i _ => R - (intOf i).toNat)
  case atStart => exact ⟨0, cs0, Nat.zero_le _, rfl, N2.out, World.grownBy.refl _ _, fun i m hi => absurd hi (Nat.not_lt_zero _)⟩
  case round =>
    obtain ⟨j, cs', hj, rfl, hrow, hg, hms⟩ := hrel
    by_cases hlt : j < R
    · have hR : 0 < R := by omega
      have hdec : decide ((j : Int) < (q.length : Int)) = true := by simp; omega
      obtain ⟨g, rc', e0, hgb, hgw⟩ := own_some H2.out hR
      cases e0
      obtain ⟨m, hm⟩ : ∃ m, q[j]? = some m := ⟨_, List.getElem?_eq_getElem (by omega)⟩
      obtain ⟨v, ⟨m0, m1, m2, m3, m4, m5⟩, hv⟩ := M2.out j m hm
      have hpl := Nat.mod_lt (first + j) hR
      have hOr := O2.out.kept hg (.inr (fun e => absurd (show g = w.heap.size from Option.some.inj e) (by omega)))
      have hLr : LinkB wr b cap _ first _ rcv hi := Six.kept L2.out hg (fun e => absurd (Option.some.inj e) (by omega))
      have hVr := hv.kept hg (type_apart hv N2.out (by decide))
      obtain ⟨va, vc, rfl⟩ := own_value hv
      have hcl : cs.length = R * 6 := hOr.1
      have hPL := Lib.hid (fun (W : World) (hb : Below wr.heap.size wr W) => place_any b cap (some ⟨g, 0, none⟩) R rc first _ rcv hi j hR (by omega) W (Six.later hLr hb))
      generalize (first + j) % R = p at *
      have x0 := (hOr.cellAt (p * 6) (by omega)).trans m0
      have x1 := (hOr.cellAt (p * 6 + 1) (by omega)).trans m1
      have x2 := (hOr.cellAt (p * 6 + 2) (by omega)).trans m2
      have x3 := (hOr.cellAt (p * 6 + 3) (by omega)).trans m3
      have x4 := (hOr.cellAt (p * 6 + 4) (by omega)).trans m4
      have x5 := (hOr.cellAt (p * 6 + 5) (by omega)).trans m5
      obtain ⟨⟨_, c1, _⟩, _, _, _⟩ := Six.cells hLr
      obtain ⟨⟨ta, tb, tc, td, te⟩, zs⟩ := m
      dsimp only at x0 x1 x2 x3 x4 x5 hVr hv
      have hcl' : cs'.length = M * 6 := hrow.1
      have i0 : (0 : Int) ≤ (p : Int) := by omega
      have i1 : (p : Int) < (R : Int) := by omega
      have i2 : (0 : Int) ≤ (j : Int) := by omega
      have i3 : (j : Int) < (M : Int) := by omega
      have HROW := Lib.hid hrow
      have HG := Lib.hid hg
      have HMS := Lib.hid hms
      have HVR := Lib.hid hVr
      clear m0 m1 m2 m3 m4 m5 hv hrow hg hms hVr hOr hLr
      go_upto_region 5 with fail
      refine wp_region_held_drew (S := fun w' => w'.cell? ⟨b, 1, none⟩ = some (.slice (some ⟨g, 0, none⟩) R rc) ∧ w'.cell? ⟨g, p * 6, none⟩ = some (.int .i64 ta) ∧ w'.cell? ⟨g, p * 6 + 1, none⟩ = some (.int .i64 tb) ∧ w'.cell? ⟨g, p * 6 + 2, none⟩ = some (.int .i64 tc) ∧ w'.cell? ⟨g, p * 6 + 3, none⟩ = some (.int .i64 td) ∧ w'.cell? ⟨g, p * 6 + 4, none⟩ = some (.int .i64 te) ∧ w'.cell? ⟨g, p * 6 + 5, none⟩ = some (.slice va zs.length vc)) (by kernel_rfl) ?_ (fun hHeld => ?_)
      · exact ⟨c1, x0, x1, x2, x3, x4, x5⟩
      refine wpAnyH_take (i := 0) (v := ?v1) rfl (by kernel_rfl) (by kernel_rfl) (by kernel_rfl) (fun _ _ _ h => h) (Or.inl ⟨by rfl, ?hy1⟩) (by assumption) ?rest1
      case hy1 => (intro w hSw; (try dsimp only at hSw); go_simp; (first | done | with_reducible rfl))
      simp only [Act.put, List.setIfInBounds_toArray, List.set_cons_zero, List.set_cons_succ, List.getElem_toArray, List.getElem_cons_zero]
      refine wpAnyH_take (i := 1) (v := ?v2) rfl (by kernel_rfl) (by kernel_rfl) (by kernel_rfl) (fun _ _ _ h => h) (Or.inl ⟨by rfl, ?hy2⟩) (by assumption) ?rest2
      case hy2 => (intro w hSw; (try dsimp only at hSw); go_simp; (first | done | with_reducible rfl))
      simp only [Act.put, List.setIfInBounds_toArray, List.set_cons_zero, List.set_cons_succ, List.getElem_toArray, List.getElem_cons_zero, List.getElem_cons_succ]
      refine wpAnyH_take (i := 2) (v := ?v3) rfl (by kernel_rfl) (by kernel_rfl) (by kernel_rfl) (fun _ _ _ h => h) (Or.inl ⟨by rfl, ?hy3⟩) (by assumption) ?rest3
      case hy3 => (intro w hSw; (try dsimp only at hSw); go_simp; (first | done | with_reducible rfl))
      simp only [Act.put, List.setIfInBounds_toArray, List.set_cons_zero, List.set_cons_succ, List.getElem_toArray, List.getElem_cons_zero, List.getElem_cons_succ]
      refine wpAnyH_take (i := 3) (v := ?v4) rfl (by kernel_rfl) (by kernel_rfl) (by kernel_rfl) (fun _ _ _ h => h) (Or.inl ⟨by rfl, ?hy4⟩) (by assumption) ?rest4
      case hy4 => (intro w hSw; (try dsimp only at hSw); go_simp; (first | done | with_reducible rfl))
      simp only [Act.put, List.setIfInBounds_toArray, List.set_cons_zero, List.set_cons_succ, List.getElem_toArray, List.getElem_cons_zero, List.getElem_cons_succ]
      refine wpAnyH_take (i := 4) (v := ?v5) rfl (by kernel_rfl) (by kernel_rfl) (by kernel_rfl) (fun _ _ _ h => h) (Or.inl ⟨by rfl, ?hy5⟩) (by assumption) ?rest5
      case hy5 => (intro w hSw; (try dsimp only at hSw); go_simp; (first | done | with_reducible rfl))
      simp only [Act.put, List.setIfInBounds_toArray, List.set_cons_zero, List.set_cons_succ, List.getElem_toArray, List.getElem_cons_zero, List.getElem_cons_succ]
      refine wpAnyH_take (i := 5) (v := ?v6) rfl (by kernel_rfl) (by kernel_rfl) (by kernel_rfl) (fun _ _ _ h => h) (Or.inl ⟨by rfl, ?hy6⟩) (by assumption) ?rest6
      case hy6 => (intro w hSw; (try dsimp only at hSw); go_simp; (first | done | with_reducible rfl))
      simp only [Act.put, List.setIfInBounds_toArray, List.set_cons_zero, List.set_cons_succ, List.getElem_toArray, List.getElem_cons_zero, List.getElem_cons_succ]
      refine wpAnyH_take (i := 6) (v := ?v7) rfl (by kernel_rfl) (by kernel_rfl) (by kernel_rfl) (fun _ _ _ h => h) (Or.inl ⟨by rfl, ?hy7⟩) (by assumption) ?rest7
      case hy7 => (intro w hSw; (try dsimp only at hSw); go_simp; (first | done | with_reducible rfl))
      simp only [Act.put, List.setIfInBounds_toArray, List.set_cons_zero, List.set_cons_succ, List.getElem_toArray, List.getElem_cons_zero, List.getElem_cons_succ]
      refine wpAnyH_take (i := 7) (v := ?v8) rfl (by kernel_rfl) (by kernel_rfl) (by kernel_rfl) (fun _ _ _ h => h) (Or.inl ⟨by rfl, ?hy8⟩) (by assumption) ?rest8
      case hy8 => (intro w hSw; (try dsimp only at hSw); go_simp; (first | done | with_reducible rfl))
      simp only [Act.put, List.setIfInBounds_toArray, List.set_cons_zero, List.set_cons_succ, List.getElem_toArray, List.getElem_cons_zero, List.getElem_cons_succ]
      refine wpAnyH_ready (rs := [8]) (by kernel_rfl) (by simp) ?_
      refine AllReadyH.cons rfl (fun K hK => ?_) AllReadyH.nil
      simp only [List.getElem_toArray, List.getElem_cons_zero, List.getElem_cons_succ]
      go_simp
      go_at_call 31
      obtain ⟨h_0, h_1, h_2, h_3, h_4, h_5, h_6⟩ := hHeld
      refine (hPL.out _ (Below.refl _ _).drew).mono ?_
      rintro e w5 ⟨rfl, rfl⟩
      have b5 : Below wr.heap.size wr wr.drew.drew := (Below.refl _ _).drew.drew
      go_wp2_with fail
      refine hK.out _ _ ⟨cell_step b5 c1, cell_step b5 x0, cell_step b5 x1, cell_step b5 x2, cell_step b5 x3, cell_step b5 x4, cell_step b5 x5⟩ (fun hHeld => ?_)
      clear hK K
      try simp only [Act.put, List.setIfInBounds_toArray, List.set_cons_zero, List.set_cons_succ, List.getElem_toArray, List.getElem_cons_zero, List.getElem_cons_succ]
      refine wpAnyH_take (i := 9) (v := ?v9) rfl (by kernel_rfl) (by kernel_rfl) (by kernel_rfl) (fun _ _ _ h => h) (Or.inl ⟨by rfl, ?hy9⟩) (by assumption) ?rest9
      case hy9 => (intro w hSw; (try dsimp only at hSw); go_simp; (first | done | with_reducible rfl))
      simp only [Act.put, List.setIfInBounds_toArray, List.set_cons_zero, List.set_cons_succ, List.getElem_toArray, List.getElem_cons_zero, List.getElem_cons_succ]
      refine wpAnyH_take (i := 10) (v := ?v10) rfl (by kernel_rfl) (by kernel_rfl) (by kernel_rfl) (fun _ _ _ h => h) (Or.inl ⟨by rfl, ?hy10⟩) (by assumption) ?rest10
      case hy10 => (intro w hSw; (try dsimp only at hSw); go_simp; (first | done | with_reducible rfl))
      simp only [Act.put, List.setIfInBounds_toArray, List.set_cons_zero, List.set_cons_succ, List.getElem_toArray, List.getElem_cons_zero, List.getElem_cons_succ]
      refine wpAnyH_take (i := 11) (v := ?v11) rfl (by kernel_rfl) (by kernel_rfl) (by kernel_rfl) (fun _ _ _ h => h) (Or.inl ⟨by rfl, ?hy11⟩) (by assumption) ?rest11
      case hy11 => (intro w hSw; (try dsimp only at hSw); go_simp; (first | done | with_reducible rfl))
      simp only [Act.put, List.setIfInBounds_toArray, List.set_cons_zero, List.set_cons_succ, List.getElem_toArray, List.getElem_cons_zero, List.getElem_cons_succ]
      refine wpAnyH_ready (rs := [12]) (by kernel_rfl) (by simp) ?_
      refine AllReadyH.cons rfl (fun K hK => ?_) AllReadyH.nil
      simp only [List.getElem_toArray, List.getElem_cons_zero, List.getElem_cons_succ]
      have ROW5 := Lib.hid (own_below HROW.out b5)
      have z (k : Nat) (hk : k < 6) : ∃ x, wr.cell? ⟨w.heap.size, j * 6 + k, none⟩ = some x := ⟨_, (HROW.out.cellAt (j * 6 + k) (by omega)).trans (List.getElem?_eq_getElem (by omega))⟩
      obtain ⟨y0, z0⟩ := z 0 (by omega)
      obtain ⟨y1, z1⟩ := z 1 (by omega)
      obtain ⟨y2, z2⟩ := z 2 (by omega)
      obtain ⟨y3, z3⟩ := z 3 (by omega)
      obtain ⟨y4, z4⟩ := z 4 (by omega)
      obtain ⟨y5, z5⟩ := z 5 (by omega)
      rw [Nat.add_zero] at z0
      have q0 := HROW.out.frozenAt (j * 6)
      have q1 := HROW.out.frozenAt (j * 6 + 1)
      have q2 := HROW.out.frozenAt (j * 6 + 2)
      have q3 := HROW.out.frozenAt (j * 6 + 3)
      have q4 := HROW.out.frozenAt (j * 6 + 4)
      have q5 := HROW.out.frozenAt (j * 6 + 5)
      clear z
      go_simp
      have P := put6 HROW.out j (.int .i64 ta) (.int .i64 tb) (.int .i64 tc) (.int .i64 td) (.int .i64 te) (.slice va zs.length vc)
      have hgl : g < wr.heap.size := Nat.lt_of_lt_of_le hgw (Nat.le_trans (Nat.le_of_lt hs2) HG.out.size)
      have hbl5 : b < wr.heap.size := Nat.lt_of_lt_of_le hbl (Nat.le_trans (Nat.le_of_lt hs2) HG.out.size)
      have ng : g ≠ w.heap.size := by omega
      have nb : b ≠ w.heap.size := by omega
      have G9 : wr.grownBy (((((((wr.setCell ⟨w.heap.size, j * 6, none⟩ (.int .i64 ta)).setCell ⟨w.heap.size, j * 6 + 1, none⟩ (.int .i64 tb)).setCell ⟨w.heap.size, j * 6 + 2, none⟩ (.int .i64 tc)).setCell ⟨w.heap.size, j * 6 + 3, none⟩ (.int .i64 td)).setCell ⟨w.heap.size, j * 6 + 4, none⟩ (.int .i64 te)).setCell ⟨w.heap.size, j * 6 + 5, none⟩ (.slice va zs.length vc)).drew.drew) (some w.heap.size) := grown_trans P.2 (grown_below ((Below.refl _ _).drew.drew) (some w.heap.size))
      have PR := Lib.hid (show World.ownsRow (((((((wr.setCell ⟨w.heap.size, j * 6, none⟩ (.int .i64 ta)).setCell ⟨w.heap.size, j * 6 + 1, none⟩ (.int .i64 tb)).setCell ⟨w.heap.size, j * 6 + 2, none⟩ (.int .i64 tc)).setCell ⟨w.heap.size, j * 6 + 3, none⟩ (.int .i64 td)).setCell ⟨w.heap.size, j * 6 + 4, none⟩ (.int .i64 te)).setCell ⟨w.heap.size, j * 6 + 5, none⟩ (.slice va zs.length vc)).drew.drew) _ _ _ _ _ _ from own_below P.1 ((Below.refl _ _).drew.drew))
      clear P z0 z1 z2 z3 z4 z5 q0 q1 q2 q3 q4 q5
      generalize ((((((wr.setCell ⟨w.heap.size, j * 6, none⟩ (.int .i64 ta)).setCell ⟨w.heap.size, j * 6 + 1, none⟩ (.int .i64 tb)).setCell ⟨w.heap.size, j * 6 + 2, none⟩ (.int .i64 tc)).setCell ⟨w.heap.size, j * 6 + 3, none⟩ (.int .i64 td)).setCell ⟨w.heap.size, j * 6 + 4, none⟩ (.int .i64 te)).setCell ⟨w.heap.size, j * 6 + 5, none⟩ (.slice va zs.length vc)).drew.drew = W9 at *
      refine hK.out _ W9 ⟨(grown_cell G9 hbl5 nb).trans c1, (grown_cell G9 hgl ng).trans x0, (grown_cell G9 hgl ng).trans x1, (grown_cell G9 hgl ng).trans x2, (grown_cell G9 hgl ng).trans x3, (grown_cell G9 hgl ng).trans x4, (grown_cell G9 hgl ng).trans x5⟩ (fun hHeld => ?_)
      clear hK K h_0 h_1 h_2 h_3 h_4 h_5 h_6
      try simp only [Act.put, List.setIfInBounds_toArray, List.set_cons_zero, List.set_cons_succ, List.getElem_toArray, List.getElem_cons_zero, List.getElem_cons_succ]
      refine wpAnyH_done (by kernel_rfl) ?_ _
      have ROWb := own_base (b' := b + 1) HROW.out (by omega)
      have MS5 := Lib.hid (show ∀ i m, i < j + 1 → q[i]? = some m → MsgAt W9 B (set6 cs' j (.int .i64 ta) (.int .i64 tb) (.int .i64 tc) (.int .i64 td) (.int .i64 te) (.slice va zs.length vc)) i m from fun i m' hi hm' => by
        by_cases hij : i = j
        · subst hij
          rw [hm] at hm'
          cases hm'
          exact ⟨_, set6_same cs' i (by omega) _ _ _ _ _ _, HVR.out.kept G9 (type_apart HVR.out HROW.out (by decide))⟩
        · exact (HMS.out i m' (by omega) hm').moved hij ROWb G9 _ _ _ _ _ _)
      have GG := Lib.hid (grown_trans HG.out G9)
      clear hHeld ROWb b5 x0 x1 x2 x3 x4 x5 c1 ROW5 HROW HG HMS HVR hm G9
      have wj : IntKind.i64.wrap ((j : Int) + 1) = j + 1 := IntWalk.i64_in _ (by omega)
      go_wp2_with fail
      go_roundw
      case rel => exact ⟨j + 1, _, by omega, by go_num, PR.out, GG.out, MS5.out⟩
      case measure => simp [intOf]; omega
    · have hje : j = R := by omega
      subst hje
      have hdec : decide ((j : Int) < (q.length : Int)) = false := by simp; omega
      have hLr : LinkB wr b cap _ first _ rcv hi := Six.kept L2.out hg (fun e => absurd (Option.some.inj e) (by omega))
      obtain ⟨⟨c0, c1, c2⟩, c3, c4, c5⟩ := Six.cells hLr
      have f1 := Six.frozen hLr 1
      have f2 := Six.frozen hLr 2
      have LF := Lib.hid (Six.set2 (Six.set1 hLr (.slice (some ⟨w.heap.size, 0, none⟩) M M)) (.int .i64 ((0 : Nat) : Int)))
      have RF := Lib.hid (own_base (b' := b + 1) (row_set (b := b) (o := 2) (row_set (b := b) (o := 1) hrow (by omega) (.slice (some ⟨w.heap.size, 0, none⟩) M M)) (by omega) (.int .i64 ((0 : Nat) : Int))) (by omega))
      have MF := Lib.hid (fun i m (hi : i < j) (hm : q[i]? = some m) => ((hms i m hi hm).set (b := b) (o := 1) (by omega) (.slice (some ⟨w.heap.size, 0, none⟩) M M)).set (b := b) (o := 2) (by omega) (.int .i64 ((0 : Nat) : Int)))
      have BF := Lib.hid (grown_trans (grown_below (B2.out.grown hg (Nat.le_of_lt hs2) (fun k e => by have := Option.some.inj e; omega)) (some b)) (grown_trans (grown_set wr b 1 (.slice (some ⟨w.heap.size, 0, none⟩) M M)) (grown_set _ b 2 (.int .i64 ((0 : Nat) : Int)))))
      clear hrow hg hms hLr c0 c3 c4 c5
      go_wp2_with fail
      go_end0
      refine ⟨⟨_, rfl⟩, ⟨0, M, _, _, LF.out, RF.out, ⟨by omega, hM2, by omega, fun k e => Nat.le_of_eq (Option.some.inj e)⟩, fun i m hm => ?_⟩, BF.out⟩
      have hil : i < q.length := by
        apply Nat.lt_of_not_le; intro hge
        rw [List.getElem?_eq_none hge] at hm; cases hm
      rw [show (0 + i) % M = i by rw [Nat.zero_add]; exact Nat.mod_eq_of_lt (by omega)]
      exact MF.out i m (by omega) hm
end Go.Proofs.Ytgbgmmakiimbbaa
