/- Layer 18: Send, up to where there is room. -/
import Derived.Test.YtgbgmmakiimbbaaLnkG
namespace Go.Proofs.Ytgbgmmakiimbbaa
open Go.RowKit
set_option linter.unusedVariables false
theorem send_nil (t : Tg) (v : Value) (w : World) : Calls Try.prog 12 #[.pointer none, encM t v] w fun e w' => e = .returned (.int .i64 1) ∧ Below w.heap.size w w' := by
  unfold encM
  go_enter Try.func12, Try.ntmps12
  go_wp2_with fail
  go_ret
  exact ⟨rfl, (Below.refl _ _).alloc (Nat.le_refl _) _⟩
set_option maxHeartbeats 2000000 in
theorem send_full {B : Nat} (b cap rcv hi : Nat) (q : List Ms) (t : Tg) (v : Value) (w : World) (h : LinkAt b B cap q rcv hi w) (hk : LinkOk cap q rcv hi) (hq : q.length = cap) :
    Calls Try.prog 12 #[.pointer (some ⟨b, 0, none⟩), encM t v] w fun e w' => e = .returned (.int .i64 11) ∧ Below w.heap.size w w' := by
  unfold encM
  obtain ⟨ta, tb, tc, td, te⟩ := t
  dsimp only
  have bA := (Below.refl w.heap.size w).alloc (Nat.le_refl _) (.cells #[.int .i64 ta, .int .i64 tb, .int .i64 tc, .int .i64 td, .int .i64 te, v] 34)
  have hA := Lib.hid (h.later bA)
  go_enter Try.func12, Try.ntmps12
  go_upto_region 3 with fail
  generalize w.alloc (.cells #[.int .i64 ta, .int .i64 tb, .int .i64 tc, .int .i64 td, .int .i64 te, v] 34) = W at *
  obtain ⟨hbB, hBw, first, R, rv, cs, o1, o2, o3, o4⟩ := hA.out
  obtain ⟨⟨c0, c1, c2⟩, c3, c4, c5⟩ := Six.cells o1
  clear o1 o2 o3 o4 c1 c2 c3 c4 c5
  refine wp_region_held_drew (S := fun w' => w'.cell? ⟨b, 0, none⟩ = some (.int .i64 cap) ∧ Below W.heap.size W w') (by kernel_rfl) ?_ (fun hHeld => ?_)
  · exact ⟨c0, (Below.refl _ _).drew⟩
  refine wpAnyH_take (i := 0) (v := ?v1) rfl (by kernel_rfl) (by kernel_rfl) (by kernel_rfl) (fun _ _ _ h => h) (Or.inl ⟨by rfl, ?hy1⟩) (by assumption) ?rest1
  case hy1 => (intro w hSw; (try dsimp only at hSw); go_simp; (first | done | with_reducible rfl))
  simp only [Act.put, List.setIfInBounds_toArray, List.set_cons_zero, List.set_cons_succ, List.getElem_toArray, List.getElem_cons_zero]
  refine wpAnyH_take (i := 2) (v := ?v2) rfl (by kernel_rfl) (by kernel_rfl) (by kernel_rfl) (fun _ _ _ h => h) (Or.inl ⟨by rfl, ?hy2⟩) (by assumption) ?rest2
  case hy2 => (intro w hSw; (try dsimp only at hSw); go_simp; (first | done | with_reducible rfl))
  simp only [Act.put, List.setIfInBounds_toArray, List.set_cons_zero, List.set_cons_succ, List.getElem_toArray, List.getElem_cons_zero, List.getElem_cons_succ]
  refine wpAnyH_take (i := 3) (v := ?v3) rfl (by kernel_rfl) (by kernel_rfl) (by kernel_rfl) (fun _ _ _ h => h) (Or.inl ⟨by rfl, ?hy3⟩) (by assumption) ?rest3
  case hy3 => (intro w hSw; (try dsimp only at hSw); go_simp; (first | done | with_reducible rfl))
  simp only [Act.put, List.setIfInBounds_toArray, List.set_cons_zero, List.set_cons_succ, List.getElem_toArray, List.getElem_cons_zero, List.getElem_cons_succ]
  refine wpAnyH_take (i := 4) (v := ?v4) rfl (by kernel_rfl) (by kernel_rfl) (by kernel_rfl) (fun _ _ _ h => h) (Or.inl ⟨by rfl, ?hy4⟩) (by assumption) ?rest4
  case hy4 => (intro w hSw; (try dsimp only at hSw); go_simp; (first | done | with_reducible rfl))
  simp only [Act.put, List.setIfInBounds_toArray, List.set_cons_zero, List.set_cons_succ, List.getElem_toArray, List.getElem_cons_zero, List.getElem_cons_succ]
  refine wpAnyH_take (i := 5) (v := ?v5) rfl (by kernel_rfl) (by kernel_rfl) (by kernel_rfl) (fun _ _ _ h => h) (Or.inl ⟨by rfl, ?hy5⟩) (by assumption) ?rest5
  case hy5 => (intro w hSw; (try dsimp only at hSw); go_simp; (first | done | with_reducible rfl))
  simp only [Act.put, List.setIfInBounds_toArray, List.set_cons_zero, List.set_cons_succ, List.getElem_toArray, List.getElem_cons_zero, List.getElem_cons_succ]
  refine wpAnyH_ready (rs := [1]) (by kernel_rfl) (by simp) ?_
  refine AllReadyH.cons rfl (fun K hK => ?_) AllReadyH.nil
  simp only [List.getElem_toArray, List.getElem_cons_zero, List.getElem_cons_succ]
  obtain ⟨h_0, h_B⟩ := hHeld
  go_simp
  go_at_call 21
  refine (linkLen_any b cap rcv hi q _ (hA.out.later h_B) hk).mono ?_
  rintro e w5 ⟨rfl, rfl⟩
  have b5 : Below W.heap.size W W.drew.drew := (Below.refl _ _).drew.drew
  go_wp2_with fail
  refine hK.out _ _ ⟨cell_step b5 c0, b5⟩ (fun hHeld => ?_)
  clear hK K h_0 h_B
  try simp only [Act.put, List.setIfInBounds_toArray, List.set_cons_zero, List.set_cons_succ, List.getElem_toArray, List.getElem_cons_zero, List.getElem_cons_succ]
  refine wpAnyH_take (i := 6) (v := ?v6) rfl (by kernel_rfl) (by kernel_rfl) (by kernel_rfl) (fun _ _ _ h => h) (Or.inl ⟨by rfl, ?hy6⟩) (by assumption) ?rest6
  case hy6 => (intro w hSw; (try dsimp only at hSw); go_simp; (first | done | with_reducible rfl))
  simp only [Act.put, List.setIfInBounds_toArray, List.set_cons_zero, List.set_cons_succ, List.getElem_toArray, List.getElem_cons_zero, List.getElem_cons_succ]
  refine wpAnyH_done (by kernel_rfl) ?_ _
  go_wp2_with fail
  go_ret
  exact ⟨rfl, bA.trans (b5.mono bA.size)⟩
/-- one more message: what region 7 to 9 do where there is room -/
def Sent (b B cap : Nat) (q : List Ms) (m : Ms) (rcv hi : Nat) (w : World) (e : Ending) (w' : World) : Prop :=
  e = .returned (.int .i64 0) ∧ LinkAt b B cap (q ++ [m]) rcv (max hi (q.length + 1)) w' ∧ Touch b (ringB b w) w w' ∧ (ringB b w' = ringB b w ∨ ∃ k, ringB b w' = some k ∧ w.heap.size ≤ k)
set_option maxHeartbeats 2000000 in
theorem send_ok {B : Nat} (b cap rcv hi : Nat) (q : List Ms) (t : Tg) (v : Value) (zs : List Int) (hz : zs.length * 8 ≤ 140737488351232) (w : World) (hv : ∀ W', w.grownBy W' (some b) → IntsW .i64 w.heap.size W' v zs) (h : LinkAt b B cap q rcv hi w) (hk : LinkOk cap q rcv hi) (hq : q.length < cap) :
    Calls Try.prog 12 #[.pointer (some ⟨b, 0, none⟩), encM t v] w (Sent b B cap q ⟨t, zs⟩ rcv hi w) := by
  unfold encM
  obtain ⟨ta, tb, tc, td, te⟩ := t
  dsimp only
  have hbl := h.lt
  obtain ⟨va, vc, rfl⟩ := (hv w (World.grownBy.refl _ _)).value
  have hcpy := h
  obtain ⟨hbB, hBw, first, R, rv, cs, o1w, o2w, ⟨o3, o4, o5⟩, o6w⟩ := hcpy
  obtain ⟨ra, rc, rfl⟩ := own_value o2w
  have hrb : ∀ k, (Value.slice ra R rc).ownBlock = some k → k < w.heap.size := fun k e => (o2w.lt k e).2
  have HRG := Lib.hid (ringB_of o1w)
  have O1w := Lib.hid o1w
  have O2w := Lib.hid o2w
  have O6w := Lib.hid o6w
  have HRB := Lib.hid hrb
  clear o1w o2w o6w hrb
  have bA := (Below.refl w.heap.size w).alloc (Nat.le_refl _) (.cells #[.int .i64 ta, .int .i64 tb, .int .i64 tc, .int .i64 td, .int .i64 te, .slice va zs.length vc] 34)
  have hA := Lib.hid (h.later bA)
  have HVV := Lib.hid hv
  have sx := Lib.hid (Six.new w 34 (.int .i64 ta) (.int .i64 tb) (.int .i64 tc) (.int .i64 td) (.int .i64 te) (.slice va zs.length vc))
  have O1 := Lib.hid (show LinkB (w.alloc (.cells #[.int .i64 ta, .int .i64 tb, .int .i64 tc, .int .i64 td, .int .i64 te, .slice va zs.length vc] 34)) b cap _ first _ rcv hi from Six.later O1w.out bA)
  have O2 := Lib.hid (own_below O2w.out bA)
  have O6 := Lib.hid (fun i m hm => (O6w.out i m hm).later bA)
  clear h hv O1w O2w O6w
  go_enter Try.func12, Try.ntmps12
  go_upto_region 3 with fail
  generalize w.alloc (.cells #[.int .i64 ta, .int .i64 tb, .int .i64 tc, .int .i64 td, .int .i64 te, .slice va zs.length vc] 34) = W at *
  obtain ⟨⟨c0, c1, c2⟩, c3, c4, c5⟩ := Six.cells O1.out
  clear c2 c3 c4 c5
  refine wp_region_held_drew (S := fun w' => w'.cell? ⟨b, 0, none⟩ = some (.int .i64 cap) ∧ Below W.heap.size W w') (by kernel_rfl) ?_ (fun hHeld => ?_)
  · exact ⟨c0, (Below.refl _ _).drew⟩
  refine wpAnyH_take (i := 0) (v := ?v7) rfl (by kernel_rfl) (by kernel_rfl) (by kernel_rfl) (fun _ _ _ h => h) (Or.inl ⟨by rfl, ?hy7⟩) (by assumption) ?rest7
  case hy7 => (intro w hSw; (try dsimp only at hSw); go_simp; (first | done | with_reducible rfl))
  simp only [Act.put, List.setIfInBounds_toArray, List.set_cons_zero, List.set_cons_succ, List.getElem_toArray, List.getElem_cons_zero]
  refine wpAnyH_take (i := 2) (v := ?v8) rfl (by kernel_rfl) (by kernel_rfl) (by kernel_rfl) (fun _ _ _ h => h) (Or.inl ⟨by rfl, ?hy8⟩) (by assumption) ?rest8
  case hy8 => (intro w hSw; (try dsimp only at hSw); go_simp; (first | done | with_reducible rfl))
  simp only [Act.put, List.setIfInBounds_toArray, List.set_cons_zero, List.set_cons_succ, List.getElem_toArray, List.getElem_cons_zero, List.getElem_cons_succ]
  refine wpAnyH_take (i := 3) (v := ?v9) rfl (by kernel_rfl) (by kernel_rfl) (by kernel_rfl) (fun _ _ _ h => h) (Or.inl ⟨by rfl, ?hy9⟩) (by assumption) ?rest9
  case hy9 => (intro w hSw; (try dsimp only at hSw); go_simp; (first | done | with_reducible rfl))
  simp only [Act.put, List.setIfInBounds_toArray, List.set_cons_zero, List.set_cons_succ, List.getElem_toArray, List.getElem_cons_zero, List.getElem_cons_succ]
  refine wpAnyH_take (i := 4) (v := ?v10) rfl (by kernel_rfl) (by kernel_rfl) (by kernel_rfl) (fun _ _ _ h => h) (Or.inl ⟨by rfl, ?hy10⟩) (by assumption) ?rest10
  case hy10 => (intro w hSw; (try dsimp only at hSw); go_simp; (first | done | with_reducible rfl))
  simp only [Act.put, List.setIfInBounds_toArray, List.set_cons_zero, List.set_cons_succ, List.getElem_toArray, List.getElem_cons_zero, List.getElem_cons_succ]
  refine wpAnyH_take (i := 5) (v := ?v11) rfl (by kernel_rfl) (by kernel_rfl) (by kernel_rfl) (fun _ _ _ h => h) (Or.inl ⟨by rfl, ?hy11⟩) (by assumption) ?rest11
  case hy11 => (intro w hSw; (try dsimp only at hSw); go_simp; (first | done | with_reducible rfl))
  simp only [Act.put, List.setIfInBounds_toArray, List.set_cons_zero, List.set_cons_succ, List.getElem_toArray, List.getElem_cons_zero, List.getElem_cons_succ]
  refine wpAnyH_ready (rs := [1]) (by kernel_rfl) (by simp) ?_
  refine AllReadyH.cons rfl (fun K hK => ?_) AllReadyH.nil
  simp only [List.getElem_toArray, List.getElem_cons_zero, List.getElem_cons_succ]
  obtain ⟨h_0, h_B⟩ := hHeld
  go_simp
  go_at_call 21
  refine (linkLen_any b cap rcv hi q _ (hA.out.later h_B) hk).mono ?_
  rintro e w5 ⟨rfl, rfl⟩
  have b5 : Below W.heap.size W W.drew.drew := (Below.refl _ _).drew.drew
  go_wp2_with fail
  refine hK.out _ _ ⟨cell_step b5 c0, b5⟩ (fun hHeld => ?_)
  clear hK K h_0 h_B
  try simp only [Act.put, List.setIfInBounds_toArray, List.set_cons_zero, List.set_cons_succ, List.getElem_toArray, List.getElem_cons_zero, List.getElem_cons_succ]
  refine wpAnyH_take (i := 6) (v := ?v12) rfl (by kernel_rfl) (by kernel_rfl) (by kernel_rfl) (fun _ _ _ h => h) (Or.inl ⟨by rfl, ?hy12⟩) (by assumption) ?rest12
  case hy12 => (intro w hSw; (try dsimp only at hSw); go_simp; (first | done | with_reducible rfl))
  simp only [Act.put, List.setIfInBounds_toArray, List.set_cons_zero, List.set_cons_succ, List.getElem_toArray, List.getElem_cons_zero, List.getElem_cons_succ]
  refine wpAnyH_done (by kernel_rfl) ?_ _
  have he1 : ¬ (q.length : Int) = (cap : Int) := by omega
  have he : ((q.length : Int) == (cap : Int)) = false := by simp; omega
  have hA2 := Lib.hid (hA.out.later b5)
  have sx2 := Lib.hid (sx.out.later b5)
  have O12 := Lib.hid (show LinkB W.drew.drew b cap _ first _ rcv hi from Six.later O1.out b5)
  have O22 := Lib.hid (own_below O2.out b5)
  have O62 := Lib.hid (fun i m hm => (O6.out i m hm).later b5)
  have B2 := Lib.hid (bA.trans (b5.mono bA.size))
  have d1 := cell_step b5 c1
  clear hA sx O1 O2 O6 bA b5 hHeld c0 c1
  generalize W.drew.drew = W2 at *
  go_upto_region 5 with fail
  refine wp_region_held_drew (S := fun w' => w'.cell? ⟨b, 1, none⟩ = some (.slice ra R rc) ∧ Below W2.heap.size W2 w') (by kernel_rfl) ?_ (fun hHeld => ?_)
  · exact ⟨d1, (Below.refl _ _).drew⟩
  refine wpAnyH_take (i := 0) (v := ?v13) rfl (by kernel_rfl) (by kernel_rfl) (by kernel_rfl) (fun _ _ _ h => h) (Or.inl ⟨by rfl, ?hy13⟩) (by assumption) ?rest13
  case hy13 => (intro w hSw; (try dsimp only at hSw); go_simp; (first | done | with_reducible rfl))
  simp only [Act.put, List.setIfInBounds_toArray, List.set_cons_zero, List.set_cons_succ, List.getElem_toArray, List.getElem_cons_zero]
  refine wpAnyH_take (i := 2) (v := ?v14) rfl (by kernel_rfl) (by kernel_rfl) (by kernel_rfl) (fun _ _ _ h => h) (Or.inl ⟨by rfl, ?hy14⟩) (by assumption) ?rest14
  case hy14 => (intro w hSw; (try dsimp only at hSw); go_simp; (first | done | with_reducible rfl))
  simp only [Act.put, List.setIfInBounds_toArray, List.set_cons_zero, List.set_cons_succ, List.getElem_toArray, List.getElem_cons_zero, List.getElem_cons_succ]
  refine wpAnyH_take (i := 3) (v := ?v15) rfl (by kernel_rfl) (by kernel_rfl) (by kernel_rfl) (fun _ _ _ h => h) (Or.inl ⟨by rfl, ?hy15⟩) (by assumption) ?rest15
  case hy15 => (intro w hSw; (try dsimp only at hSw); go_simp; (first | done | with_reducible rfl))
  simp only [Act.put, List.setIfInBounds_toArray, List.set_cons_zero, List.set_cons_succ, List.getElem_toArray, List.getElem_cons_zero, List.getElem_cons_succ]
  refine wpAnyH_take (i := 4) (v := ?v16) rfl (by kernel_rfl) (by kernel_rfl) (by kernel_rfl) (fun _ _ _ h => h) (Or.inl ⟨by rfl, ?hy16⟩) (by assumption) ?rest16
  case hy16 => (intro w hSw; (try dsimp only at hSw); go_simp; (first | done | with_reducible rfl))
  simp only [Act.put, List.setIfInBounds_toArray, List.set_cons_zero, List.set_cons_succ, List.getElem_toArray, List.getElem_cons_zero, List.getElem_cons_succ]
  refine wpAnyH_take (i := 5) (v := ?v17) rfl (by kernel_rfl) (by kernel_rfl) (by kernel_rfl) (fun _ _ _ h => h) (Or.inl ⟨by rfl, ?hy17⟩) (by assumption) ?rest17
  case hy17 => (intro w hSw; (try dsimp only at hSw); go_simp; (first | done | with_reducible rfl))
  simp only [Act.put, List.setIfInBounds_toArray, List.set_cons_zero, List.set_cons_succ, List.getElem_toArray, List.getElem_cons_zero, List.getElem_cons_succ]
  refine wpAnyH_take (i := 6) (v := ?v18) rfl (by kernel_rfl) (by kernel_rfl) (by kernel_rfl) (fun _ _ _ h => h) (Or.inl ⟨by rfl, ?hy18⟩) (by assumption) ?rest18
  case hy18 => (intro w hSw; (try dsimp only at hSw); go_simp; (first | done | with_reducible rfl))
  simp only [Act.put, List.setIfInBounds_toArray, List.set_cons_zero, List.set_cons_succ, List.getElem_toArray, List.getElem_cons_zero, List.getElem_cons_succ]
  refine wpAnyH_ready (rs := [1]) (by kernel_rfl) (by simp) ?_
  refine AllReadyH.cons rfl (fun K hK => ?_) AllReadyH.nil
  simp only [List.getElem_toArray, List.getElem_cons_zero, List.getElem_cons_succ]
  obtain ⟨h_0, h_B⟩ := hHeld
  go_simp
  go_at_call 21
  refine (linkLen_any b cap rcv hi q _ (hA2.out.later h_B) hk).mono ?_
  rintro e w5 ⟨rfl, rfl⟩
  have b5 : Below W2.heap.size W2 W2.drew.drew := (Below.refl _ _).drew.drew
  go_wp2_with fail
  refine hK.out _ _ ⟨cell_step b5 d1, b5⟩ (fun hHeld => ?_)
  clear hK K h_0 h_B
  try simp only [Act.put, List.setIfInBounds_toArray, List.set_cons_zero, List.set_cons_succ, List.getElem_toArray, List.getElem_cons_zero, List.getElem_cons_succ]
  refine wpAnyH_take (i := 7) (v := ?v19) rfl (by kernel_rfl) (by kernel_rfl) (by kernel_rfl) (fun _ _ _ h => h) (Or.inl ⟨by rfl, ?hy19⟩) (by assumption) ?rest19
  case hy19 => (intro w hSw; (try dsimp only at hSw); go_simp; (first | done | with_reducible rfl))
  simp only [Act.put, List.setIfInBounds_toArray, List.set_cons_zero, List.set_cons_succ, List.getElem_toArray, List.getElem_cons_zero, List.getElem_cons_succ]
  refine wpAnyH_done (by kernel_rfl) ?_ _
  have sx3 := Lib.hid (sx2.out.later b5)
  have O13 := Lib.hid (show LinkB W2.drew.drew b cap _ first _ rcv hi from Six.later O12.out b5)
  have O23 := Lib.hid (own_below O22.out b5)
  have O63 := Lib.hid (fun i m hm => (O62.out i m hm).later b5)
  have B3 := Lib.hid (B2.out.trans (b5.mono B2.out.size))
  clear hA2 sx2 O12 O22 O62 B2 b5 hHeld d1
  generalize W2.drew.drew = W3 at *
  by_cases hqR : q.length = R
  · have hf1 : ((q.length : Int) == (R : Int)) = true := by simp; omega
    have hf2 : (q.length : Int) = (R : Int) := by omega
    go_wp2_with fail
    refine (grow_any b cap rcv hi first R _ cs q W3 hbB O13.out O23.out hqR (by omega) o5 O63.out hk).mono ?_
    rintro e W4 ⟨⟨v0, rfl⟩, hRoom, gG⟩
    have GT := Lib.hid (grown_trans (grown_below B3.out (some b)) gG)
    have sx4 := sx3.out.kept gG (fun e => absurd (Option.some.inj e) (by omega))
    have hws : w.heap.size ≤ W4.heap.size := Nat.le_trans B3.out.size gG.size
    have hsx : w.heap.size < W3.heap.size := Six.lt sx3.out
    clear O13 O23 O63 B3 gG sx3 hf1 hf2 hqR o3 o4 o5 cs HRB
    obtain ⟨first, R, rv, cs, o1, o2, ⟨o3, o4, o5, o7⟩, o6⟩ := hRoom
    obtain ⟨g, rc, rfl, hgb, hgw⟩ := own_some o2 (by omega)
    have ng : g ≠ w.heap.size := by have := o7 g rfl; omega
    have hgn : w.heap.size ≤ g := Nat.le_trans (Nat.le_of_lt hsx) (o7 g rfl)
    clear o7
    obtain ⟨⟨_, e1, _⟩, _, _, _⟩ := Six.cells o1
    obtain ⟨⟨x0, x1, x2⟩, x3, x4, x5⟩ := sx4.cells
    have L4 := Lib.hid o1
    have R4 := Lib.hid o2
    have M4 := Lib.hid o6
    have SX4 := Lib.hid sx4
    obtain ⟨k1, k2, k3, k4⟩ := hk
    have hpl := Nat.mod_lt (first + q.length) (show 0 < R by omega)
    have hPL := Lib.hid (fun (W : World) (hb : Below W4.heap.size W4 W) => place_any b cap (some ⟨g, 0, none⟩) R rc first _ rcv hi q.length (by omega) (by omega) W (Six.later L4.out hb))
    generalize hp : (first + q.length) % R = p at hPL hpl
    have HP := Lib.hid hp
    have i0 : (0 : Int) ≤ (p : Int) := by omega
    have i1 : (p : Int) < (R : Int) := by omega
    clear o1 o2 o6 sx4 hp
    go_upto_region 7 with fail
    refine wp_region_held_drew (S := fun w' => w'.cell? ⟨b, 1, none⟩ = some (.slice (some ⟨g, 0, none⟩) R rc) ∧ (w'.cell? ⟨w.heap.size, 0, none⟩ = some (.int .i64 ta) ∧ w'.cell? ⟨w.heap.size, 1, none⟩ = some (.int .i64 tb) ∧ w'.cell? ⟨w.heap.size, 2, none⟩ = some (.int .i64 tc) ∧ w'.cell? ⟨w.heap.size, 3, none⟩ = some (.int .i64 td) ∧ w'.cell? ⟨w.heap.size, 4, none⟩ = some (.int .i64 te) ∧ w'.cell? ⟨w.heap.size, 5, none⟩ = some (.slice va zs.length vc))) (by kernel_rfl) ?_ (fun hHeld => ?_)
    · exact ⟨e1, x0, x1, x2, x3, x4, x5⟩
    refine wpAnyH_take (i := 0) (v := ?v20) rfl (by kernel_rfl) (by kernel_rfl) (by kernel_rfl) (fun _ _ _ h => h) (Or.inl ⟨by rfl, ?hy20⟩) (by assumption) ?rest20
    case hy20 => (intro w hSw; (try dsimp only at hSw); go_simp; (first | done | with_reducible rfl))
    simp only [Act.put, List.setIfInBounds_toArray, List.set_cons_zero, List.set_cons_succ, List.getElem_toArray, List.getElem_cons_zero]
    refine wpAnyH_take (i := 1) (v := ?v21) rfl (by kernel_rfl) (by kernel_rfl) (by kernel_rfl) (fun _ _ _ h => h) (Or.inl ⟨by rfl, ?hy21⟩) (by assumption) ?rest21
    case hy21 => (intro w hSw; (try dsimp only at hSw); go_simp; (first | done | with_reducible rfl))
    simp only [Act.put, List.setIfInBounds_toArray, List.set_cons_zero, List.set_cons_succ, List.getElem_toArray, List.getElem_cons_zero, List.getElem_cons_succ]
    refine wpAnyH_take (i := 2) (v := ?v22) rfl (by kernel_rfl) (by kernel_rfl) (by kernel_rfl) (fun _ _ _ h => h) (Or.inl ⟨by rfl, ?hy22⟩) (by assumption) ?rest22
    case hy22 => (intro w hSw; (try dsimp only at hSw); go_simp; (first | done | with_reducible rfl))
    simp only [Act.put, List.setIfInBounds_toArray, List.set_cons_zero, List.set_cons_succ, List.getElem_toArray, List.getElem_cons_zero, List.getElem_cons_succ]
    refine wpAnyH_take (i := 3) (v := ?v23) rfl (by kernel_rfl) (by kernel_rfl) (by kernel_rfl) (fun _ _ _ h => h) (Or.inl ⟨by rfl, ?hy23⟩) (by assumption) ?rest23
    case hy23 => (intro w hSw; (try dsimp only at hSw); go_simp; (first | done | with_reducible rfl))
    simp only [Act.put, List.setIfInBounds_toArray, List.set_cons_zero, List.set_cons_succ, List.getElem_toArray, List.getElem_cons_zero, List.getElem_cons_succ]
    refine wpAnyH_take (i := 4) (v := ?v24) rfl (by kernel_rfl) (by kernel_rfl) (by kernel_rfl) (fun _ _ _ h => h) (Or.inl ⟨by rfl, ?hy24⟩) (by assumption) ?rest24
    case hy24 => (intro w hSw; (try dsimp only at hSw); go_simp; (first | done | with_reducible rfl))
    simp only [Act.put, List.setIfInBounds_toArray, List.set_cons_zero, List.set_cons_succ, List.getElem_toArray, List.getElem_cons_zero, List.getElem_cons_succ]
    refine wpAnyH_take (i := 5) (v := ?v25) rfl (by kernel_rfl) (by kernel_rfl) (by kernel_rfl) (fun _ _ _ h => h) (Or.inl ⟨by rfl, ?hy25⟩) (by assumption) ?rest25
    case hy25 => (intro w hSw; (try dsimp only at hSw); go_simp; (first | done | with_reducible rfl))
    simp only [Act.put, List.setIfInBounds_toArray, List.set_cons_zero, List.set_cons_succ, List.getElem_toArray, List.getElem_cons_zero, List.getElem_cons_succ]
    refine wpAnyH_take (i := 8) (v := ?v26) rfl (by kernel_rfl) (by kernel_rfl) (by kernel_rfl) (fun _ _ _ h => h) (Or.inl ⟨by rfl, ?hy26⟩) (by assumption) ?rest26
    case hy26 => (intro w hSw; (try dsimp only at hSw); go_simp; (first | done | with_reducible rfl))
    simp only [Act.put, List.setIfInBounds_toArray, List.set_cons_zero, List.set_cons_succ, List.getElem_toArray, List.getElem_cons_zero, List.getElem_cons_succ]
    refine wpAnyH_ready (rs := [6]) (by kernel_rfl) (by simp) ?_
    refine AllReadyH.cons rfl (fun K hK => ?_) AllReadyH.nil
    simp only [List.getElem_toArray, List.getElem_cons_zero, List.getElem_cons_succ]
    obtain ⟨h_0, h_1⟩ := hHeld
    go_simp
    go_at_call 21
    refine (len_any b cap _ first q.length rcv hi (by omega) _ (Six.later L4.out (Below.refl _ _).drew)).mono ?_
    rintro e w5 ⟨rfl, rfl⟩
    have b5 : Below W4.heap.size W4 W4.drew.drew := (Below.refl _ _).drew.drew
    go_wp2_with fail
    refine hK.out _ _ ⟨cell_step b5 e1, cell_step b5 x0, cell_step b5 x1, cell_step b5 x2, cell_step b5 x3, cell_step b5 x4, cell_step b5 x5⟩ (fun hHeld => ?_)
    clear hK K h_0 h_1
    try simp only [Act.put, List.setIfInBounds_toArray, List.set_cons_zero, List.set_cons_succ, List.getElem_toArray, List.getElem_cons_zero, List.getElem_cons_succ]
    refine wpAnyH_ready (rs := [7]) (by kernel_rfl) (by simp) ?_
    refine AllReadyH.cons rfl (fun K hK => ?_) AllReadyH.nil
    simp only [List.getElem_toArray, List.getElem_cons_zero, List.getElem_cons_succ]
    obtain ⟨h_0, h_1⟩ := hHeld
    go_simp
    go_at_call 31
    refine (hPL.out _ b5).mono ?_
    rintro e w6 ⟨rfl, rfl⟩
    have b6 : Below W4.heap.size W4 W4.drew.drew.drew := (Below.refl _ _).drew.drew.drew
    go_wp2_with fail
    refine hK.out _ _ ⟨cell_step b6 e1, cell_step b6 x0, cell_step b6 x1, cell_step b6 x2, cell_step b6 x3, cell_step b6 x4, cell_step b6 x5⟩ (fun hHeld => ?_)
    clear hK K h_0 h_1
    try simp only [Act.put, List.setIfInBounds_toArray, List.set_cons_zero, List.set_cons_succ, List.getElem_toArray, List.getElem_cons_zero, List.getElem_cons_succ]
    refine wpAnyH_ready (rs := [9]) (by kernel_rfl) (by simp) ?_
    refine AllReadyH.cons rfl (fun K hK => ?_) AllReadyH.nil
    simp only [List.getElem_toArray, List.getElem_cons_zero, List.getElem_cons_succ]
    obtain ⟨h_0, h_1⟩ := hHeld
    go_simp
    go_at_call 30
    refine (clone_any ⟨ta, tb, tc, td, te⟩ (.slice va zs.length vc) zs hz w.heap.size _ (Nat.le_trans hws b6.size) (HVV.out _ (grown_trans GT.out (grown_below b6 _)))).mono ?_
    rintro e w7 ⟨u, rfl, hu, b7⟩
    unfold encM
    have b8 : Below W4.heap.size W4 w7 := b6.trans (b7.mono b6.size)
    have HU := Lib.hid (own_base (b' := B) hu (by have := b6.size; omega))
    obtain ⟨ua, uc, rfl⟩ := own_value hu
    clear hu b7
    go_wp2_with fail
    refine hK.out _ _ ⟨cell_step b8 e1, cell_step b8 x0, cell_step b8 x1, cell_step b8 x2, cell_step b8 x3, cell_step b8 x4, cell_step b8 x5⟩ (fun hHeld => ?_)
    clear hK K h_0 h_1
    try simp only [Act.put, List.setIfInBounds_toArray, List.set_cons_zero, List.set_cons_succ, List.getElem_toArray, List.getElem_cons_zero, List.getElem_cons_succ]
    refine wpAnyH_take (i := 10) (v := ?v27) rfl (by kernel_rfl) (by kernel_rfl) (by kernel_rfl) (fun _ _ _ h => h) (Or.inl ⟨by rfl, ?hy27⟩) (by assumption) ?rest27
    case hy27 => (intro w hSw; (try dsimp only at hSw); go_simp; (first | done | with_reducible rfl))
    simp only [Act.put, List.setIfInBounds_toArray, List.set_cons_zero, List.set_cons_succ, List.getElem_toArray, List.getElem_cons_zero, List.getElem_cons_succ]
    refine wpAnyH_ready (rs := [11]) (by kernel_rfl) (by simp) ?_
    refine AllReadyH.cons rfl (fun K hK => ?_) AllReadyH.nil
    simp only [List.getElem_toArray, List.getElem_cons_zero, List.getElem_cons_succ]
    have R5 := Lib.hid (own_below R4.out b8)
    have z (k : Nat) (hk : k < 6) : ∃ x, w7.cell? ⟨g, p * 6 + k, none⟩ = some x := ⟨_, (R5.out.cellAt (p * 6 + k) (by omega)).trans (List.getElem?_eq_getElem (by have := R5.out.1; omega))⟩
    obtain ⟨y0, z0⟩ := z 0 (by omega)
    obtain ⟨y1, z1⟩ := z 1 (by omega)
    obtain ⟨y2, z2⟩ := z 2 (by omega)
    obtain ⟨y3, z3⟩ := z 3 (by omega)
    obtain ⟨y4, z4⟩ := z 4 (by omega)
    obtain ⟨y5, z5⟩ := z 5 (by omega)
    rw [Nat.add_zero] at z0
    have q0 := R5.out.frozenAt (p * 6)
    have q1 := R5.out.frozenAt (p * 6 + 1)
    have q2 := R5.out.frozenAt (p * 6 + 2)
    have q3 := R5.out.frozenAt (p * 6 + 3)
    have q4 := R5.out.frozenAt (p * 6 + 4)
    have q5 := R5.out.frozenAt (p * 6 + 5)
    clear z
    go_simp
    have P := put6 R5.out p (.int .i64 ta) (.int .i64 tb) (.int .i64 tc) (.int .i64 td) (.int .i64 te) (.slice ua zs.length uc)
    have G9 := P.2
    have R9 := Lib.hid P.1
    clear P z0 z1 z2 z3 z4 z5 q0 q1 q2 q3 q4 q5 b5 b6
    generalize ((((((w7.setCell ⟨g, p * 6, none⟩ (.int .i64 ta)).setCell ⟨g, p * 6 + 1, none⟩ (.int .i64 tb)).setCell ⟨g, p * 6 + 2, none⟩ (.int .i64 tc)).setCell ⟨g, p * 6 + 3, none⟩ (.int .i64 td)).setCell ⟨g, p * 6 + 4, none⟩ (.int .i64 te)).setCell ⟨g, p * 6 + 5, none⟩ (.slice ua zs.length uc)) = W9 at *
    have lb7 : b < w7.heap.size := Nat.lt_of_lt_of_le (Six.lt L4.out) b8.size
    have lx7 : w.heap.size < w7.heap.size := Nat.lt_of_lt_of_le (Six.lt SX4.out) b8.size
    have nb : b ≠ g := by omega
    refine hK.out _ W9 ⟨(grown_cell G9 lb7 nb).trans (cell_step b8 e1), (grown_cell G9 lx7 ng.symm).trans (cell_step b8 x0), (grown_cell G9 lx7 ng.symm).trans (cell_step b8 x1), (grown_cell G9 lx7 ng.symm).trans (cell_step b8 x2), (grown_cell G9 lx7 ng.symm).trans (cell_step b8 x3), (grown_cell G9 lx7 ng.symm).trans (cell_step b8 x4), (grown_cell G9 lx7 ng.symm).trans (cell_step b8 x5)⟩ (fun hHeld => ?_)
    clear hK K
    try simp only [Act.put, List.setIfInBounds_toArray, List.set_cons_zero, List.set_cons_succ, List.getElem_toArray, List.getElem_cons_zero, List.getElem_cons_succ]
    refine wpAnyH_done (by kernel_rfl) ?_ _
    have L9 : LinkB W9 b cap _ first _ rcv hi := Six.kept (Six.later L4.out b8) G9 (fun e => nb (Option.some.inj e))
    have M9 := Lib.hid (show ∀ i m, (q ++ [⟨⟨ta, tb, tc, td, te⟩, zs⟩])[i]? = some m → MsgAt W9 B (set6 cs p (.int .i64 ta) (.int .i64 tb) (.int .i64 tc) (.int .i64 td) (.int .i64 te) (.slice ua zs.length uc)) ((first + i) % R) m from fun i m hm => by
      rcases Nat.lt_trichotomy i q.length with hil | hil | hil
      · rw [List.getElem?_append_left hil] at hm
        refine ((M4.out i m hm).later b8).moved ?_ R5.out G9 _ _ _ _ _ _
        rw [← HP.out]
        exact mod_ne2 hil o3
      · subst hil
        rw [List.getElem?_append_right (Nat.le_refl _), Nat.sub_self] at hm
        cases hm
        rw [HP.out]
        exact ⟨_, set6_same cs p (by have := R5.out.1; omega) _ _ _ _ _ _, HU.out.kept G9 (type_apart HU.out R5.out (by decide))⟩
      · rw [List.getElem?_eq_none (by simp; omega)] at hm
        cases hm)
    have B9 := Lib.hid ((((Touch.refl b (ringB b w) w).grown GT.out (.inr (.inr rfl)) (Nat.le_refl _) (Nat.le_of_lt hbl)).later b8 (Nat.le_of_lt hbl)).grown G9 (.inr (.inl hgn)) (by omega) (Nat.le_of_lt hbl))
    clear L4 R4 M4 SX4 R5 HU G9 b8 hHeld e1 x0 x1 x2 x3 x4 x5 HP HVV GT hPL
    have hS1 : rcv + q.length + 1 = rcv + (q.length + 1) := by omega
    have HS1 := Lib.hid hS1
    have wS : ((rcv + q.length : Nat) : Int) + 1 = ((rcv + q.length + 1 : Nat) : Int) := by omega
    have wS2 : IntKind.i64.wrap (((rcv + q.length : Nat) : Int) + 1) = ((rcv + q.length + 1 : Nat) : Int) := (IntWalk.i64_in _ (by omega)).trans wS
    clear hS1
    generalize hSq : rcv + q.length = Sq at *
    generalize hSq1 : Sq + 1 = Sq1 at *
    obtain ⟨⟨_, _, _⟩, c3, _, _⟩ := Six.cells L9
    have f3 := L9.frozen 3
    have L10 := Lib.hid (L9.set3 (.int .i64 (Sq1 : Int)))
    clear L9
    go_upto_region 8 with fail
    go_region
    go_upto_region 9 with fail
    have b10 : Below (W9.setCell ⟨b, 3, none⟩ (.int .i64 (Sq1 : Int))).heap.size (W9.setCell ⟨b, 3, none⟩ (.int .i64 (Sq1 : Int))) (W9.setCell ⟨b, 3, none⟩ (.int .i64 (Sq1 : Int))).drew := (Below.refl _ _).drew
    have L11 := Six.later L10.out b10
    have R10 := Lib.hid (own_below (row_set (b := b) (o := 3) R9.out (by omega) (.int .i64 (Sq1 : Int))) b10)
    have M10 := Lib.hid (fun i m hm => ((M9.out i m hm).set (b := b) (o := 3) (by omega) (.int .i64 (Sq1 : Int))).later b10)
    have B10 := Lib.hid ((B9.out.set (o := 3) (x := .int .i64 (Sq1 : Int)) (Nat.le_of_lt hbl)).drew (Nat.le_of_lt hbl))
    clear L10 R9 M9 B9 b10 c3 f3
    generalize (W9.setCell ⟨b, 3, none⟩ (.int .i64 (Sq1 : Int))).drew = W10 at *
    have HE := HS1.out
    clear wS wS2 HS1
    obtain ⟨n1, hn1⟩ : ∃ n1, n1 = q.length + 1 := ⟨_, rfl⟩
    have L12 : LinkB W10 b cap (.slice (some ⟨g, 0, none⟩) R rc) first (rcv + n1) rcv hi := by rw [hn1, ← HE]; exact L11
    have HN1 := Lib.hid hn1
    have hnb : rcv + n1 ≤ 4611686018427387904 := by omega
    clear L11 HE hSq hSq1
    obtain ⟨mx, hmx⟩ : ∃ mx, mx = max hi n1 := ⟨_, rfl⟩
    have HM0 := Lib.hid hmx
    by_cases hh : (hi : Int) < (n1 : Int)
    · clear hmx
      obtain ⟨⟨_, _, _⟩, _, _, c5⟩ := Six.cells L12
      have hll := Six.lt L12
      have f5 := Six.frozen L12 5
      have HL12 := Lib.hid L12
      have LF := Lib.hid (Six.set5 L12 (.int .i64 (n1 : Int)))
      clear hn1 L12
      refine wp_region_held_drew (S := fun w' => True) (by kernel_rfl) trivial (fun hHeld => ?_)
      refine wpAnyH_take (i := 0) (v := ?v28) rfl (by kernel_rfl) (by kernel_rfl) (by kernel_rfl) (fun _ _ _ h => h) (Or.inl ⟨by rfl, ?hy28⟩) (by assumption) ?rest28
      case hy28 => (intro w hSw; (try dsimp only at hSw); go_simp; (first | done | with_reducible rfl))
      simp only [Act.put, List.setIfInBounds_toArray, List.set_cons_zero, List.set_cons_succ, List.getElem_toArray, List.getElem_cons_zero]
      refine wpAnyH_take (i := 1) (v := ?v29) rfl (by kernel_rfl) (by kernel_rfl) (by kernel_rfl) (fun _ _ _ h => h) (Or.inl ⟨by rfl, ?hy29⟩) (by assumption) ?rest29
      case hy29 => (intro w hSw; (try dsimp only at hSw); go_simp; (first | done | with_reducible rfl))
      simp only [Act.put, List.setIfInBounds_toArray, List.set_cons_zero, List.set_cons_succ, List.getElem_toArray, List.getElem_cons_zero, List.getElem_cons_succ]
      refine wpAnyH_take (i := 2) (v := ?v30) rfl (by kernel_rfl) (by kernel_rfl) (by kernel_rfl) (fun _ _ _ h => h) (Or.inl ⟨by rfl, ?hy30⟩) (by assumption) ?rest30
      case hy30 => (intro w hSw; (try dsimp only at hSw); go_simp; (first | done | with_reducible rfl))
      simp only [Act.put, List.setIfInBounds_toArray, List.set_cons_zero, List.set_cons_succ, List.getElem_toArray, List.getElem_cons_zero, List.getElem_cons_succ]
      refine wpAnyH_take (i := 3) (v := ?v31) rfl (by kernel_rfl) (by kernel_rfl) (by kernel_rfl) (fun _ _ _ h => h) (Or.inl ⟨by rfl, ?hy31⟩) (by assumption) ?rest31
      case hy31 => (intro w hSw; (try dsimp only at hSw); go_simp; (first | done | with_reducible rfl))
      simp only [Act.put, List.setIfInBounds_toArray, List.set_cons_zero, List.set_cons_succ, List.getElem_toArray, List.getElem_cons_zero, List.getElem_cons_succ]
      refine wpAnyH_take (i := 4) (v := ?v32) rfl (by kernel_rfl) (by kernel_rfl) (by kernel_rfl) (fun _ _ _ h => h) (Or.inl ⟨by rfl, ?hy32⟩) (by assumption) ?rest32
      case hy32 => (intro w hSw; (try dsimp only at hSw); go_simp; (first | done | with_reducible rfl))
      simp only [Act.put, List.setIfInBounds_toArray, List.set_cons_zero, List.set_cons_succ, List.getElem_toArray, List.getElem_cons_zero, List.getElem_cons_succ]
      refine wpAnyH_take (i := 6) (v := ?v33) rfl (by kernel_rfl) (by kernel_rfl) (by kernel_rfl) (fun _ _ _ h => h) (Or.inl ⟨by rfl, ?hy33⟩) (by assumption) ?rest33
      case hy33 => (intro w hSw; (try dsimp only at hSw); go_simp; (first | done | with_reducible rfl))
      simp only [Act.put, List.setIfInBounds_toArray, List.set_cons_zero, List.set_cons_succ, List.getElem_toArray, List.getElem_cons_zero, List.getElem_cons_succ]
      refine wpAnyH_take (i := 9) (v := ?v34) rfl (by kernel_rfl) (by kernel_rfl) (by kernel_rfl) (fun _ _ _ h => h) (Or.inl ⟨by rfl, ?hy34⟩) (by assumption) ?rest34
      case hy34 => (intro w hSw; (try dsimp only at hSw); go_simp; (first | done | with_reducible rfl))
      simp only [Act.put, List.setIfInBounds_toArray, List.set_cons_zero, List.set_cons_succ, List.getElem_toArray, List.getElem_cons_zero, List.getElem_cons_succ]
      refine wpAnyH_take (i := 10) (v := ?v35) rfl (by kernel_rfl) (by kernel_rfl) (by kernel_rfl) (fun _ _ _ h => h) (Or.inl ⟨by rfl, ?hy35⟩) (by assumption) ?rest35
      case hy35 => (intro w hSw; (try dsimp only at hSw); go_simp; (first | done | with_reducible rfl))
      simp only [Act.put, List.setIfInBounds_toArray, List.set_cons_zero, List.set_cons_succ, List.getElem_toArray, List.getElem_cons_zero, List.getElem_cons_succ]
      refine wpAnyH_ready (rs := [5, 7]) (by kernel_rfl) (by simp) ?_
      refine AllReadyH.cons rfl (fun K hK => ?_) ?_
      · skip
        try simp only [Act.put, List.setIfInBounds_toArray, List.set_cons_zero, List.set_cons_succ, List.getElem_toArray, List.getElem_cons_zero, List.getElem_cons_succ]
        go_simp
        refine hK.out _ _ trivial (fun hHeld => ?_)
        clear hK K
        try simp only [Act.put, List.setIfInBounds_toArray, List.set_cons_zero, List.set_cons_succ, List.getElem_toArray, List.getElem_cons_zero, List.getElem_cons_succ]
        refine wpAnyH_ready (rs := [7]) (by kernel_rfl) (by simp) ?_
        refine AllReadyH.cons rfl (fun K hK => ?_) AllReadyH.nil
        simp only [List.getElem_toArray, List.getElem_cons_zero, List.getElem_cons_succ]
        go_simp
        go_at_call 21
        refine (len_any b cap _ first n1 rcv hi hnb _ (Six.later HL12.out (Below.refl _ _).drew)).mono ?_
        rintro e w5 ⟨rfl, rfl⟩
        go_wp2_with fail
        refine hK.out _ _ trivial (fun hHeld => ?_)
        clear hK K
        try simp only [Act.put, List.setIfInBounds_toArray, List.set_cons_zero, List.set_cons_succ, List.getElem_toArray, List.getElem_cons_zero, List.getElem_cons_succ]
        refine wpAnyH_take (i := 8) (v := ?v36) rfl (by kernel_rfl) (by kernel_rfl) (by kernel_rfl) (fun _ _ _ h => h) (Or.inl ⟨by rfl, ?hy36⟩) (by assumption) ?rest36
        case hy36 => (intro w hSw; (try dsimp only at hSw); go_simp; (first | done | with_reducible rfl))
        simp only [Act.put, List.setIfInBounds_toArray, List.set_cons_zero, List.set_cons_succ, List.getElem_toArray, List.getElem_cons_zero, List.getElem_cons_succ]
        refine wpAnyH_take (i := 11) (v := ?v37) rfl (by kernel_rfl) (by kernel_rfl) (by kernel_rfl) (fun _ _ _ h => h) (Or.inl ⟨by rfl, ?hy37⟩) (by assumption) ?rest37
        case hy37 => (intro w hSw; (try dsimp only at hSw); go_simp; (first | done | with_reducible rfl))
        simp only [Act.put, List.setIfInBounds_toArray, List.set_cons_zero, List.set_cons_succ, List.getElem_toArray, List.getElem_cons_zero, List.getElem_cons_succ]
        refine wpAnyH_ready (rs := [12]) (by kernel_rfl) (by simp) ?_
        refine AllReadyH.cons rfl (fun K hK => ?_) AllReadyH.nil
        simp only [List.getElem_toArray, List.getElem_cons_zero, List.getElem_cons_succ]
        go_simp
        refine hK.out _ _ trivial (fun hHeld => ?_)
        clear hK K
        try simp only [Act.put, List.setIfInBounds_toArray, List.set_cons_zero, List.set_cons_succ, List.getElem_toArray, List.getElem_cons_zero, List.getElem_cons_succ]
        refine wpAnyH_done (by kernel_rfl) ?_ _
        have bF : Below (W10.setCell ⟨b, 5, none⟩ (.int .i64 (n1 : Int))).heap.size (W10.setCell ⟨b, 5, none⟩ (.int .i64 (n1 : Int))) (W10.setCell ⟨b, 5, none⟩ (.int .i64 (n1 : Int))).drew.drew := (Below.refl _ _).drew.drew
        have LZ : LinkB (W10.setCell ⟨b, 5, none⟩ (.int .i64 (n1 : Int))).drew.drew b cap (.slice (some ⟨g, 0, none⟩) R rc) first (rcv + n1) rcv n1 := Six.later LF.out bF
        have RZ := Lib.hid (own_below (row_set (b := b) (o := 5) R10.out (by omega) (.int .i64 (n1 : Int))) bF)
        have MZ := Lib.hid (fun i m hm => ((M10.out i m hm).set (b := b) (o := 5) (by omega) (.int .i64 (n1 : Int))).later bF)
        have BZ := Lib.hid ((B10.out.set (o := 5) (x := .int .i64 (n1 : Int)) (Nat.le_of_lt hbl)).later (Below.refl _ _).drew.drew (Nat.le_of_lt hbl))
        clear hHeld c5 f5 LF R10 M10 B10 bF
        go_wp2_with fail
        go_ret
        have LZ' : LinkB (W10.setCell ⟨b, 5, none⟩ (.int .i64 (n1 : Int))).drew.drew b cap (.slice (some ⟨g, 0, none⟩) R rc) first (rcv + (q ++ [(⟨⟨ta, tb, tc, td, te⟩, zs⟩ : Ms)]).length) rcv (max hi (q.length + 1)) := by
          rw [show (q ++ [(⟨⟨ta, tb, tc, td, te⟩, zs⟩ : Ms)]).length = n1 by rw [List.length_append, HN1.out]; rfl, show max hi (q.length + 1) = n1 by have := HN1.out; omega]
          exact LZ
        exact ⟨rfl, ⟨hbB, Nat.le_trans hBw BZ.out.1.size, first, R, _, _, LZ', RZ.out, ⟨by rw [List.length_append]; exact o3, o4, .inl o5⟩, MZ.out⟩, BZ.out, .inr ⟨g, ringB_of LZ', hgn⟩⟩
      refine AllReadyH.cons rfl (fun K hK => ?_) AllReadyH.nil
      try simp only [Act.put, List.setIfInBounds_toArray, List.set_cons_zero, List.set_cons_succ, List.getElem_toArray, List.getElem_cons_zero, List.getElem_cons_succ]
      go_simp
      go_at_call 21
      refine (len_any b cap _ first n1 rcv hi hnb _ (Six.later HL12.out (Below.refl _ _).drew)).mono ?_
      rintro e w5 ⟨rfl, rfl⟩
      go_wp2_with fail
      refine hK.out _ _ trivial (fun hHeld => ?_)
      clear hK K
      try simp only [Act.put, List.setIfInBounds_toArray, List.set_cons_zero, List.set_cons_succ, List.getElem_toArray, List.getElem_cons_zero, List.getElem_cons_succ]
      refine wpAnyH_ready (rs := [5]) (by kernel_rfl) (by simp) ?_
      refine AllReadyH.cons rfl (fun K hK => ?_) AllReadyH.nil
      simp only [List.getElem_toArray, List.getElem_cons_zero, List.getElem_cons_succ]
      go_simp
      refine hK.out _ _ trivial (fun hHeld => ?_)
      clear hK K
      try simp only [Act.put, List.setIfInBounds_toArray, List.set_cons_zero, List.set_cons_succ, List.getElem_toArray, List.getElem_cons_zero, List.getElem_cons_succ]
      refine wpAnyH_take (i := 8) (v := ?v38) rfl (by kernel_rfl) (by kernel_rfl) (by kernel_rfl) (fun _ _ _ h => h) (Or.inl ⟨by rfl, ?hy38⟩) (by assumption) ?rest38
      case hy38 => (intro w hSw; (try dsimp only at hSw); go_simp; (first | done | with_reducible rfl))
      simp only [Act.put, List.setIfInBounds_toArray, List.set_cons_zero, List.set_cons_succ, List.getElem_toArray, List.getElem_cons_zero, List.getElem_cons_succ]
      refine wpAnyH_take (i := 11) (v := ?v39) rfl (by kernel_rfl) (by kernel_rfl) (by kernel_rfl) (fun _ _ _ h => h) (Or.inl ⟨by rfl, ?hy39⟩) (by assumption) ?rest39
      case hy39 => (intro w hSw; (try dsimp only at hSw); go_simp; (first | done | with_reducible rfl))
      simp only [Act.put, List.setIfInBounds_toArray, List.set_cons_zero, List.set_cons_succ, List.getElem_toArray, List.getElem_cons_zero, List.getElem_cons_succ]
      refine wpAnyH_ready (rs := [12]) (by kernel_rfl) (by simp) ?_
      refine AllReadyH.cons rfl (fun K hK => ?_) AllReadyH.nil
      simp only [List.getElem_toArray, List.getElem_cons_zero, List.getElem_cons_succ]
      go_simp
      refine hK.out _ _ trivial (fun hHeld => ?_)
      clear hK K
      try simp only [Act.put, List.setIfInBounds_toArray, List.set_cons_zero, List.set_cons_succ, List.getElem_toArray, List.getElem_cons_zero, List.getElem_cons_succ]
      refine wpAnyH_done (by kernel_rfl) ?_ _
      have bF : Below (W10.setCell ⟨b, 5, none⟩ (.int .i64 (n1 : Int))).heap.size (W10.setCell ⟨b, 5, none⟩ (.int .i64 (n1 : Int))) (W10.setCell ⟨b, 5, none⟩ (.int .i64 (n1 : Int))).drew.drew := (Below.refl _ _).drew.drew
      have LZ : LinkB (W10.setCell ⟨b, 5, none⟩ (.int .i64 (n1 : Int))).drew.drew b cap (.slice (some ⟨g, 0, none⟩) R rc) first (rcv + n1) rcv n1 := Six.later LF.out bF
      have RZ := Lib.hid (own_below (row_set (b := b) (o := 5) R10.out (by omega) (.int .i64 (n1 : Int))) bF)
      have MZ := Lib.hid (fun i m hm => ((M10.out i m hm).set (b := b) (o := 5) (by omega) (.int .i64 (n1 : Int))).later bF)
      have BZ := Lib.hid ((B10.out.set (o := 5) (x := .int .i64 (n1 : Int)) (Nat.le_of_lt hbl)).later (Below.refl _ _).drew.drew (Nat.le_of_lt hbl))
      clear hHeld c5 f5 LF R10 M10 B10 bF
      go_wp2_with fail
      go_ret
      have LZ' : LinkB (W10.setCell ⟨b, 5, none⟩ (.int .i64 (n1 : Int))).drew.drew b cap (.slice (some ⟨g, 0, none⟩) R rc) first (rcv + (q ++ [(⟨⟨ta, tb, tc, td, te⟩, zs⟩ : Ms)]).length) rcv (max hi (q.length + 1)) := by
        rw [show (q ++ [(⟨⟨ta, tb, tc, td, te⟩, zs⟩ : Ms)]).length = n1 by rw [List.length_append, HN1.out]; rfl, show max hi (q.length + 1) = n1 by have := HN1.out; omega]
        exact LZ
      exact ⟨rfl, ⟨hbB, Nat.le_trans hBw BZ.out.1.size, first, R, _, _, LZ', RZ.out, ⟨by rw [List.length_append]; exact o3, o4, .inl o5⟩, MZ.out⟩, BZ.out, .inr ⟨g, ringB_of LZ', hgn⟩⟩
    · clear hmx
      obtain ⟨⟨_, _, _⟩, _, _, c5⟩ := Six.cells L12
      have hll := Six.lt L12
      have f5 := Six.frozen L12 5
      have HL12 := Lib.hid L12
      have LF := Lib.hid (Six.set5 L12 (.int .i64 (hi : Int)))
      clear hn1 L12
      refine wp_region_held_drew (S := fun w' => True) (by kernel_rfl) trivial (fun hHeld => ?_)
      refine wpAnyH_take (i := 0) (v := ?v40) rfl (by kernel_rfl) (by kernel_rfl) (by kernel_rfl) (fun _ _ _ h => h) (Or.inl ⟨by rfl, ?hy40⟩) (by assumption) ?rest40
      case hy40 => (intro w hSw; (try dsimp only at hSw); go_simp; (first | done | with_reducible rfl))
      simp only [Act.put, List.setIfInBounds_toArray, List.set_cons_zero, List.set_cons_succ, List.getElem_toArray, List.getElem_cons_zero]
      refine wpAnyH_take (i := 1) (v := ?v41) rfl (by kernel_rfl) (by kernel_rfl) (by kernel_rfl) (fun _ _ _ h => h) (Or.inl ⟨by rfl, ?hy41⟩) (by assumption) ?rest41
      case hy41 => (intro w hSw; (try dsimp only at hSw); go_simp; (first | done | with_reducible rfl))
      simp only [Act.put, List.setIfInBounds_toArray, List.set_cons_zero, List.set_cons_succ, List.getElem_toArray, List.getElem_cons_zero, List.getElem_cons_succ]
      refine wpAnyH_take (i := 2) (v := ?v42) rfl (by kernel_rfl) (by kernel_rfl) (by kernel_rfl) (fun _ _ _ h => h) (Or.inl ⟨by rfl, ?hy42⟩) (by assumption) ?rest42
      case hy42 => (intro w hSw; (try dsimp only at hSw); go_simp; (first | done | with_reducible rfl))
      simp only [Act.put, List.setIfInBounds_toArray, List.set_cons_zero, List.set_cons_succ, List.getElem_toArray, List.getElem_cons_zero, List.getElem_cons_succ]
      refine wpAnyH_take (i := 3) (v := ?v43) rfl (by kernel_rfl) (by kernel_rfl) (by kernel_rfl) (fun _ _ _ h => h) (Or.inl ⟨by rfl, ?hy43⟩) (by assumption) ?rest43
      case hy43 => (intro w hSw; (try dsimp only at hSw); go_simp; (first | done | with_reducible rfl))
      simp only [Act.put, List.setIfInBounds_toArray, List.set_cons_zero, List.set_cons_succ, List.getElem_toArray, List.getElem_cons_zero, List.getElem_cons_succ]
      refine wpAnyH_take (i := 4) (v := ?v44) rfl (by kernel_rfl) (by kernel_rfl) (by kernel_rfl) (fun _ _ _ h => h) (Or.inl ⟨by rfl, ?hy44⟩) (by assumption) ?rest44
      case hy44 => (intro w hSw; (try dsimp only at hSw); go_simp; (first | done | with_reducible rfl))
      simp only [Act.put, List.setIfInBounds_toArray, List.set_cons_zero, List.set_cons_succ, List.getElem_toArray, List.getElem_cons_zero, List.getElem_cons_succ]
      refine wpAnyH_take (i := 6) (v := ?v45) rfl (by kernel_rfl) (by kernel_rfl) (by kernel_rfl) (fun _ _ _ h => h) (Or.inl ⟨by rfl, ?hy45⟩) (by assumption) ?rest45
      case hy45 => (intro w hSw; (try dsimp only at hSw); go_simp; (first | done | with_reducible rfl))
      simp only [Act.put, List.setIfInBounds_toArray, List.set_cons_zero, List.set_cons_succ, List.getElem_toArray, List.getElem_cons_zero, List.getElem_cons_succ]
      refine wpAnyH_take (i := 9) (v := ?v46) rfl (by kernel_rfl) (by kernel_rfl) (by kernel_rfl) (fun _ _ _ h => h) (Or.inl ⟨by rfl, ?hy46⟩) (by assumption) ?rest46
      case hy46 => (intro w hSw; (try dsimp only at hSw); go_simp; (first | done | with_reducible rfl))
      simp only [Act.put, List.setIfInBounds_toArray, List.set_cons_zero, List.set_cons_succ, List.getElem_toArray, List.getElem_cons_zero, List.getElem_cons_succ]
      refine wpAnyH_take (i := 10) (v := ?v47) rfl (by kernel_rfl) (by kernel_rfl) (by kernel_rfl) (fun _ _ _ h => h) (Or.inl ⟨by rfl, ?hy47⟩) (by assumption) ?rest47
      case hy47 => (intro w hSw; (try dsimp only at hSw); go_simp; (first | done | with_reducible rfl))
      simp only [Act.put, List.setIfInBounds_toArray, List.set_cons_zero, List.set_cons_succ, List.getElem_toArray, List.getElem_cons_zero, List.getElem_cons_succ]
      refine wpAnyH_ready (rs := [5, 7]) (by kernel_rfl) (by simp) ?_
      refine AllReadyH.cons rfl (fun K hK => ?_) ?_
      · skip
        try simp only [Act.put, List.setIfInBounds_toArray, List.set_cons_zero, List.set_cons_succ, List.getElem_toArray, List.getElem_cons_zero, List.getElem_cons_succ]
        go_simp
        refine hK.out _ _ trivial (fun hHeld => ?_)
        clear hK K
        try simp only [Act.put, List.setIfInBounds_toArray, List.set_cons_zero, List.set_cons_succ, List.getElem_toArray, List.getElem_cons_zero, List.getElem_cons_succ]
        refine wpAnyH_ready (rs := [7]) (by kernel_rfl) (by simp) ?_
        refine AllReadyH.cons rfl (fun K hK => ?_) AllReadyH.nil
        simp only [List.getElem_toArray, List.getElem_cons_zero, List.getElem_cons_succ]
        go_simp
        go_at_call 21
        refine (len_any b cap _ first n1 rcv hi hnb _ (Six.later HL12.out (Below.refl _ _).drew)).mono ?_
        rintro e w5 ⟨rfl, rfl⟩
        go_wp2_with fail
        refine hK.out _ _ trivial (fun hHeld => ?_)
        clear hK K
        try simp only [Act.put, List.setIfInBounds_toArray, List.set_cons_zero, List.set_cons_succ, List.getElem_toArray, List.getElem_cons_zero, List.getElem_cons_succ]
        refine wpAnyH_take (i := 8) (v := ?v48) rfl (by kernel_rfl) (by kernel_rfl) (by kernel_rfl) (fun _ _ _ h => h) (Or.inl ⟨by rfl, ?hy48⟩) (by assumption) ?rest48
        case hy48 => (intro w hSw; (try dsimp only at hSw); go_simp; (first | done | with_reducible rfl))
        simp only [Act.put, List.setIfInBounds_toArray, List.set_cons_zero, List.set_cons_succ, List.getElem_toArray, List.getElem_cons_zero, List.getElem_cons_succ]
        refine wpAnyH_take (i := 11) (v := ?v49) rfl (by kernel_rfl) (by kernel_rfl) (by kernel_rfl) (fun _ _ _ h => h) (Or.inl ⟨by rfl, ?hy49⟩) (by assumption) ?rest49
        case hy49 => (intro w hSw; (try dsimp only at hSw); go_simp; (first | done | with_reducible rfl))
        simp only [Act.put, List.setIfInBounds_toArray, List.set_cons_zero, List.set_cons_succ, List.getElem_toArray, List.getElem_cons_zero, List.getElem_cons_succ]
        refine wpAnyH_ready (rs := [12]) (by kernel_rfl) (by simp) ?_
        refine AllReadyH.cons rfl (fun K hK => ?_) AllReadyH.nil
        simp only [List.getElem_toArray, List.getElem_cons_zero, List.getElem_cons_succ]
        go_simp
        refine hK.out _ _ trivial (fun hHeld => ?_)
        clear hK K
        try simp only [Act.put, List.setIfInBounds_toArray, List.set_cons_zero, List.set_cons_succ, List.getElem_toArray, List.getElem_cons_zero, List.getElem_cons_succ]
        refine wpAnyH_done (by kernel_rfl) ?_ _
        have bF : Below (W10.setCell ⟨b, 5, none⟩ (.int .i64 (hi : Int))).heap.size (W10.setCell ⟨b, 5, none⟩ (.int .i64 (hi : Int))) (W10.setCell ⟨b, 5, none⟩ (.int .i64 (hi : Int))).drew.drew := (Below.refl _ _).drew.drew
        have LZ : LinkB (W10.setCell ⟨b, 5, none⟩ (.int .i64 (hi : Int))).drew.drew b cap (.slice (some ⟨g, 0, none⟩) R rc) first (rcv + n1) rcv hi := Six.later LF.out bF
        have RZ := Lib.hid (own_below (row_set (b := b) (o := 5) R10.out (by omega) (.int .i64 (hi : Int))) bF)
        have MZ := Lib.hid (fun i m hm => ((M10.out i m hm).set (b := b) (o := 5) (by omega) (.int .i64 (hi : Int))).later bF)
        have BZ := Lib.hid ((B10.out.set (o := 5) (x := .int .i64 (hi : Int)) (Nat.le_of_lt hbl)).later (Below.refl _ _).drew.drew (Nat.le_of_lt hbl))
        clear hHeld c5 f5 LF R10 M10 B10 bF
        go_wp2_with fail
        go_ret
        have LZ' : LinkB (W10.setCell ⟨b, 5, none⟩ (.int .i64 (hi : Int))).drew.drew b cap (.slice (some ⟨g, 0, none⟩) R rc) first (rcv + (q ++ [(⟨⟨ta, tb, tc, td, te⟩, zs⟩ : Ms)]).length) rcv (max hi (q.length + 1)) := by
          rw [show (q ++ [(⟨⟨ta, tb, tc, td, te⟩, zs⟩ : Ms)]).length = n1 by rw [List.length_append, HN1.out]; rfl, show max hi (q.length + 1) = hi by have := HN1.out; omega]
          exact LZ
        exact ⟨rfl, ⟨hbB, Nat.le_trans hBw BZ.out.1.size, first, R, _, _, LZ', RZ.out, ⟨by rw [List.length_append]; exact o3, o4, .inl o5⟩, MZ.out⟩, BZ.out, .inr ⟨g, ringB_of LZ', hgn⟩⟩
      refine AllReadyH.cons rfl (fun K hK => ?_) AllReadyH.nil
      try simp only [Act.put, List.setIfInBounds_toArray, List.set_cons_zero, List.set_cons_succ, List.getElem_toArray, List.getElem_cons_zero, List.getElem_cons_succ]
      go_simp
      go_at_call 21
      refine (len_any b cap _ first n1 rcv hi hnb _ (Six.later HL12.out (Below.refl _ _).drew)).mono ?_
      rintro e w5 ⟨rfl, rfl⟩
      go_wp2_with fail
      refine hK.out _ _ trivial (fun hHeld => ?_)
      clear hK K
      try simp only [Act.put, List.setIfInBounds_toArray, List.set_cons_zero, List.set_cons_succ, List.getElem_toArray, List.getElem_cons_zero, List.getElem_cons_succ]
      refine wpAnyH_ready (rs := [5]) (by kernel_rfl) (by simp) ?_
      refine AllReadyH.cons rfl (fun K hK => ?_) AllReadyH.nil
      simp only [List.getElem_toArray, List.getElem_cons_zero, List.getElem_cons_succ]
      go_simp
      refine hK.out _ _ trivial (fun hHeld => ?_)
      clear hK K
      try simp only [Act.put, List.setIfInBounds_toArray, List.set_cons_zero, List.set_cons_succ, List.getElem_toArray, List.getElem_cons_zero, List.getElem_cons_succ]
      refine wpAnyH_take (i := 8) (v := ?v50) rfl (by kernel_rfl) (by kernel_rfl) (by kernel_rfl) (fun _ _ _ h => h) (Or.inl ⟨by rfl, ?hy50⟩) (by assumption) ?rest50
      case hy50 => (intro w hSw; (try dsimp only at hSw); go_simp; (first | done | with_reducible rfl))
      simp only [Act.put, List.setIfInBounds_toArray, List.set_cons_zero, List.set_cons_succ, List.getElem_toArray, List.getElem_cons_zero, List.getElem_cons_succ]
      refine wpAnyH_take (i := 11) (v := ?v51) rfl (by kernel_rfl) (by kernel_rfl) (by kernel_rfl) (fun _ _ _ h => h) (Or.inl ⟨by rfl, ?hy51⟩) (by assumption) ?rest51
      case hy51 => (intro w hSw; (try dsimp only at hSw); go_simp; (first | done | with_reducible rfl))
      simp only [Act.put, List.setIfInBounds_toArray, List.set_cons_zero, List.set_cons_succ, List.getElem_toArray, List.getElem_cons_zero, List.getElem_cons_succ]
      refine wpAnyH_ready (rs := [12]) (by kernel_rfl) (by simp) ?_
      refine AllReadyH.cons rfl (fun K hK => ?_) AllReadyH.nil
      simp only [List.getElem_toArray, List.getElem_cons_zero, List.getElem_cons_succ]
      go_simp
      refine hK.out _ _ trivial (fun hHeld => ?_)
      clear hK K
      try simp only [Act.put, List.setIfInBounds_toArray, List.set_cons_zero, List.set_cons_succ, List.getElem_toArray, List.getElem_cons_zero, List.getElem_cons_succ]
      refine wpAnyH_done (by kernel_rfl) ?_ _
      have bF : Below (W10.setCell ⟨b, 5, none⟩ (.int .i64 (hi : Int))).heap.size (W10.setCell ⟨b, 5, none⟩ (.int .i64 (hi : Int))) (W10.setCell ⟨b, 5, none⟩ (.int .i64 (hi : Int))).drew.drew := (Below.refl _ _).drew.drew
      have LZ : LinkB (W10.setCell ⟨b, 5, none⟩ (.int .i64 (hi : Int))).drew.drew b cap (.slice (some ⟨g, 0, none⟩) R rc) first (rcv + n1) rcv hi := Six.later LF.out bF
      have RZ := Lib.hid (own_below (row_set (b := b) (o := 5) R10.out (by omega) (.int .i64 (hi : Int))) bF)
      have MZ := Lib.hid (fun i m hm => ((M10.out i m hm).set (b := b) (o := 5) (by omega) (.int .i64 (hi : Int))).later bF)
      have BZ := Lib.hid ((B10.out.set (o := 5) (x := .int .i64 (hi : Int)) (Nat.le_of_lt hbl)).later (Below.refl _ _).drew.drew (Nat.le_of_lt hbl))
      clear hHeld c5 f5 LF R10 M10 B10 bF
      go_wp2_with fail
      go_ret
      have LZ' : LinkB (W10.setCell ⟨b, 5, none⟩ (.int .i64 (hi : Int))).drew.drew b cap (.slice (some ⟨g, 0, none⟩) R rc) first (rcv + (q ++ [(⟨⟨ta, tb, tc, td, te⟩, zs⟩ : Ms)]).length) rcv (max hi (q.length + 1)) := by
        rw [show (q ++ [(⟨⟨ta, tb, tc, td, te⟩, zs⟩ : Ms)]).length = n1 by rw [List.length_append, HN1.out]; rfl, show max hi (q.length + 1) = hi by have := HN1.out; omega]
        exact LZ
      exact ⟨rfl, ⟨hbB, Nat.le_trans hBw BZ.out.1.size, first, R, _, _, LZ', RZ.out, ⟨by rw [List.length_append]; exact o3, o4, .inl o5⟩, MZ.out⟩, BZ.out, .inr ⟨g, ringB_of LZ', hgn⟩⟩
  · have hf1 : ((q.length : Int) == (R : Int)) = false := by simp; omega
    have hf2 : ¬ (q.length : Int) = (R : Int) := by omega
    have GT := Lib.hid (grown_below B3.out (some b))
    have hws : w.heap.size ≤ W3.heap.size := B3.out.size
    have hlt : q.length < R := by omega
    have hfl : first < R := by omega
    clear o3 o5
    have o3 := hlt
    have o5 := hfl
    have o2 := O23.out
    obtain ⟨g, rc', e0, hgb, hgw⟩ := own_some o2 (by omega)
    cases e0
    have ng : g ≠ w.heap.size := by have := HRB.out g rfl; omega
    have sx4 := sx3.out
    have o1 := O13.out
    have o6 := O63.out
    clear O13 O23 O63 B3 sx3 HRB hlt hfl
    obtain ⟨⟨_, e1, _⟩, _, _, _⟩ := Six.cells o1
    obtain ⟨⟨x0, x1, x2⟩, x3, x4, x5⟩ := sx4.cells
    have L4 := Lib.hid o1
    have R4 := Lib.hid o2
    have M4 := Lib.hid o6
    have SX4 := Lib.hid sx4
    obtain ⟨k1, k2, k3, k4⟩ := hk
    have hpl := Nat.mod_lt (first + q.length) (show 0 < R by omega)
    have hPL := Lib.hid (fun (W : World) (hb : Below W3.heap.size W3 W) => place_any b cap (some ⟨g, 0, none⟩) R rc first _ rcv hi q.length (by omega) (by omega) W (Six.later L4.out hb))
    generalize hp : (first + q.length) % R = p at hPL hpl
    have HP := Lib.hid hp
    have i0 : (0 : Int) ≤ (p : Int) := by omega
    have i1 : (p : Int) < (R : Int) := by omega
    clear o1 o2 o6 sx4 hp
    go_upto_region 7 with fail
    refine wp_region_held_drew (S := fun w' => w'.cell? ⟨b, 1, none⟩ = some (.slice (some ⟨g, 0, none⟩) R rc) ∧ (w'.cell? ⟨w.heap.size, 0, none⟩ = some (.int .i64 ta) ∧ w'.cell? ⟨w.heap.size, 1, none⟩ = some (.int .i64 tb) ∧ w'.cell? ⟨w.heap.size, 2, none⟩ = some (.int .i64 tc) ∧ w'.cell? ⟨w.heap.size, 3, none⟩ = some (.int .i64 td) ∧ w'.cell? ⟨w.heap.size, 4, none⟩ = some (.int .i64 te) ∧ w'.cell? ⟨w.heap.size, 5, none⟩ = some (.slice va zs.length vc))) (by kernel_rfl) ?_ (fun hHeld => ?_)
    · exact ⟨e1, x0, x1, x2, x3, x4, x5⟩
    refine wpAnyH_take (i := 0) (v := ?v52) rfl (by kernel_rfl) (by kernel_rfl) (by kernel_rfl) (fun _ _ _ h => h) (Or.inl ⟨by rfl, ?hy52⟩) (by assumption) ?rest52
    case hy52 => (intro w hSw; (try dsimp only at hSw); go_simp; (first | done | with_reducible rfl))
    simp only [Act.put, List.setIfInBounds_toArray, List.set_cons_zero, List.set_cons_succ, List.getElem_toArray, List.getElem_cons_zero]
    refine wpAnyH_take (i := 1) (v := ?v53) rfl (by kernel_rfl) (by kernel_rfl) (by kernel_rfl) (fun _ _ _ h => h) (Or.inl ⟨by rfl, ?hy53⟩) (by assumption) ?rest53
    case hy53 => (intro w hSw; (try dsimp only at hSw); go_simp; (first | done | with_reducible rfl))
    simp only [Act.put, List.setIfInBounds_toArray, List.set_cons_zero, List.set_cons_succ, List.getElem_toArray, List.getElem_cons_zero, List.getElem_cons_succ]
    refine wpAnyH_take (i := 2) (v := ?v54) rfl (by kernel_rfl) (by kernel_rfl) (by kernel_rfl) (fun _ _ _ h => h) (Or.inl ⟨by rfl, ?hy54⟩) (by assumption) ?rest54
    case hy54 => (intro w hSw; (try dsimp only at hSw); go_simp; (first | done | with_reducible rfl))
    simp only [Act.put, List.setIfInBounds_toArray, List.set_cons_zero, List.set_cons_succ, List.getElem_toArray, List.getElem_cons_zero, List.getElem_cons_succ]
    refine wpAnyH_take (i := 3) (v := ?v55) rfl (by kernel_rfl) (by kernel_rfl) (by kernel_rfl) (fun _ _ _ h => h) (Or.inl ⟨by rfl, ?hy55⟩) (by assumption) ?rest55
    case hy55 => (intro w hSw; (try dsimp only at hSw); go_simp; (first | done | with_reducible rfl))
    simp only [Act.put, List.setIfInBounds_toArray, List.set_cons_zero, List.set_cons_succ, List.getElem_toArray, List.getElem_cons_zero, List.getElem_cons_succ]
    refine wpAnyH_take (i := 4) (v := ?v56) rfl (by kernel_rfl) (by kernel_rfl) (by kernel_rfl) (fun _ _ _ h => h) (Or.inl ⟨by rfl, ?hy56⟩) (by assumption) ?rest56
    case hy56 => (intro w hSw; (try dsimp only at hSw); go_simp; (first | done | with_reducible rfl))
    simp only [Act.put, List.setIfInBounds_toArray, List.set_cons_zero, List.set_cons_succ, List.getElem_toArray, List.getElem_cons_zero, List.getElem_cons_succ]
    refine wpAnyH_take (i := 5) (v := ?v57) rfl (by kernel_rfl) (by kernel_rfl) (by kernel_rfl) (fun _ _ _ h => h) (Or.inl ⟨by rfl, ?hy57⟩) (by assumption) ?rest57
    case hy57 => (intro w hSw; (try dsimp only at hSw); go_simp; (first | done | with_reducible rfl))
    simp only [Act.put, List.setIfInBounds_toArray, List.set_cons_zero, List.set_cons_succ, List.getElem_toArray, List.getElem_cons_zero, List.getElem_cons_succ]
    refine wpAnyH_take (i := 8) (v := ?v58) rfl (by kernel_rfl) (by kernel_rfl) (by kernel_rfl) (fun _ _ _ h => h) (Or.inl ⟨by rfl, ?hy58⟩) (by assumption) ?rest58
    case hy58 => (intro w hSw; (try dsimp only at hSw); go_simp; (first | done | with_reducible rfl))
    simp only [Act.put, List.setIfInBounds_toArray, List.set_cons_zero, List.set_cons_succ, List.getElem_toArray, List.getElem_cons_zero, List.getElem_cons_succ]
    refine wpAnyH_ready (rs := [6]) (by kernel_rfl) (by simp) ?_
    refine AllReadyH.cons rfl (fun K hK => ?_) AllReadyH.nil
    simp only [List.getElem_toArray, List.getElem_cons_zero, List.getElem_cons_succ]
    obtain ⟨h_0, h_1⟩ := hHeld
    go_simp
    go_at_call 21
    refine (len_any b cap _ first q.length rcv hi (by omega) _ (Six.later L4.out (Below.refl _ _).drew)).mono ?_
    rintro e w5 ⟨rfl, rfl⟩
    have b5 : Below W3.heap.size W3 W3.drew.drew := (Below.refl _ _).drew.drew
    go_wp2_with fail
    refine hK.out _ _ ⟨cell_step b5 e1, cell_step b5 x0, cell_step b5 x1, cell_step b5 x2, cell_step b5 x3, cell_step b5 x4, cell_step b5 x5⟩ (fun hHeld => ?_)
    clear hK K h_0 h_1
    try simp only [Act.put, List.setIfInBounds_toArray, List.set_cons_zero, List.set_cons_succ, List.getElem_toArray, List.getElem_cons_zero, List.getElem_cons_succ]
    refine wpAnyH_ready (rs := [7]) (by kernel_rfl) (by simp) ?_
    refine AllReadyH.cons rfl (fun K hK => ?_) AllReadyH.nil
    simp only [List.getElem_toArray, List.getElem_cons_zero, List.getElem_cons_succ]
    obtain ⟨h_0, h_1⟩ := hHeld
    go_simp
    go_at_call 31
    refine (hPL.out _ b5).mono ?_
    rintro e w6 ⟨rfl, rfl⟩
    have b6 : Below W3.heap.size W3 W3.drew.drew.drew := (Below.refl _ _).drew.drew.drew
    go_wp2_with fail
    refine hK.out _ _ ⟨cell_step b6 e1, cell_step b6 x0, cell_step b6 x1, cell_step b6 x2, cell_step b6 x3, cell_step b6 x4, cell_step b6 x5⟩ (fun hHeld => ?_)
    clear hK K h_0 h_1
    try simp only [Act.put, List.setIfInBounds_toArray, List.set_cons_zero, List.set_cons_succ, List.getElem_toArray, List.getElem_cons_zero, List.getElem_cons_succ]
    refine wpAnyH_ready (rs := [9]) (by kernel_rfl) (by simp) ?_
    refine AllReadyH.cons rfl (fun K hK => ?_) AllReadyH.nil
    simp only [List.getElem_toArray, List.getElem_cons_zero, List.getElem_cons_succ]
    obtain ⟨h_0, h_1⟩ := hHeld
    go_simp
    go_at_call 30
    refine (clone_any ⟨ta, tb, tc, td, te⟩ (.slice va zs.length vc) zs hz w.heap.size _ (Nat.le_trans hws b6.size) (HVV.out _ (grown_trans GT.out (grown_below b6 _)))).mono ?_
    rintro e w7 ⟨u, rfl, hu, b7⟩
    unfold encM
    have b8 : Below W3.heap.size W3 w7 := b6.trans (b7.mono b6.size)
    have HU := Lib.hid (own_base (b' := B) hu (by have := b6.size; omega))
    obtain ⟨ua, uc, rfl⟩ := own_value hu
    clear hu b7
    go_wp2_with fail
    refine hK.out _ _ ⟨cell_step b8 e1, cell_step b8 x0, cell_step b8 x1, cell_step b8 x2, cell_step b8 x3, cell_step b8 x4, cell_step b8 x5⟩ (fun hHeld => ?_)
    clear hK K h_0 h_1
    try simp only [Act.put, List.setIfInBounds_toArray, List.set_cons_zero, List.set_cons_succ, List.getElem_toArray, List.getElem_cons_zero, List.getElem_cons_succ]
    refine wpAnyH_take (i := 10) (v := ?v59) rfl (by kernel_rfl) (by kernel_rfl) (by kernel_rfl) (fun _ _ _ h => h) (Or.inl ⟨by rfl, ?hy59⟩) (by assumption) ?rest59
    case hy59 => (intro w hSw; (try dsimp only at hSw); go_simp; (first | done | with_reducible rfl))
    simp only [Act.put, List.setIfInBounds_toArray, List.set_cons_zero, List.set_cons_succ, List.getElem_toArray, List.getElem_cons_zero, List.getElem_cons_succ]
    refine wpAnyH_ready (rs := [11]) (by kernel_rfl) (by simp) ?_
    refine AllReadyH.cons rfl (fun K hK => ?_) AllReadyH.nil
    simp only [List.getElem_toArray, List.getElem_cons_zero, List.getElem_cons_succ]
    have R5 := Lib.hid (own_below R4.out b8)
    have z (k : Nat) (hk : k < 6) : ∃ x, w7.cell? ⟨g, p * 6 + k, none⟩ = some x := ⟨_, (R5.out.cellAt (p * 6 + k) (by omega)).trans (List.getElem?_eq_getElem (by have := R5.out.1; omega))⟩
    obtain ⟨y0, z0⟩ := z 0 (by omega)
    obtain ⟨y1, z1⟩ := z 1 (by omega)
    obtain ⟨y2, z2⟩ := z 2 (by omega)
    obtain ⟨y3, z3⟩ := z 3 (by omega)
    obtain ⟨y4, z4⟩ := z 4 (by omega)
    obtain ⟨y5, z5⟩ := z 5 (by omega)
    rw [Nat.add_zero] at z0
    have q0 := R5.out.frozenAt (p * 6)
    have q1 := R5.out.frozenAt (p * 6 + 1)
    have q2 := R5.out.frozenAt (p * 6 + 2)
    have q3 := R5.out.frozenAt (p * 6 + 3)
    have q4 := R5.out.frozenAt (p * 6 + 4)
    have q5 := R5.out.frozenAt (p * 6 + 5)
    clear z
    go_simp
    have P := put6 R5.out p (.int .i64 ta) (.int .i64 tb) (.int .i64 tc) (.int .i64 td) (.int .i64 te) (.slice ua zs.length uc)
    have G9 := P.2
    have R9 := Lib.hid P.1
    clear P z0 z1 z2 z3 z4 z5 q0 q1 q2 q3 q4 q5 b5 b6
    generalize ((((((w7.setCell ⟨g, p * 6, none⟩ (.int .i64 ta)).setCell ⟨g, p * 6 + 1, none⟩ (.int .i64 tb)).setCell ⟨g, p * 6 + 2, none⟩ (.int .i64 tc)).setCell ⟨g, p * 6 + 3, none⟩ (.int .i64 td)).setCell ⟨g, p * 6 + 4, none⟩ (.int .i64 te)).setCell ⟨g, p * 6 + 5, none⟩ (.slice ua zs.length uc)) = W9 at *
    have lb7 : b < w7.heap.size := Nat.lt_of_lt_of_le (Six.lt L4.out) b8.size
    have lx7 : w.heap.size < w7.heap.size := Nat.lt_of_lt_of_le (Six.lt SX4.out) b8.size
    have nb : b ≠ g := by omega
    refine hK.out _ W9 ⟨(grown_cell G9 lb7 nb).trans (cell_step b8 e1), (grown_cell G9 lx7 ng.symm).trans (cell_step b8 x0), (grown_cell G9 lx7 ng.symm).trans (cell_step b8 x1), (grown_cell G9 lx7 ng.symm).trans (cell_step b8 x2), (grown_cell G9 lx7 ng.symm).trans (cell_step b8 x3), (grown_cell G9 lx7 ng.symm).trans (cell_step b8 x4), (grown_cell G9 lx7 ng.symm).trans (cell_step b8 x5)⟩ (fun hHeld => ?_)
    clear hK K
    try simp only [Act.put, List.setIfInBounds_toArray, List.set_cons_zero, List.set_cons_succ, List.getElem_toArray, List.getElem_cons_zero, List.getElem_cons_succ]
    refine wpAnyH_done (by kernel_rfl) ?_ _
    have L9 : LinkB W9 b cap _ first _ rcv hi := Six.kept (Six.later L4.out b8) G9 (fun e => nb (Option.some.inj e))
    have M9 := Lib.hid (show ∀ i m, (q ++ [⟨⟨ta, tb, tc, td, te⟩, zs⟩])[i]? = some m → MsgAt W9 B (set6 cs p (.int .i64 ta) (.int .i64 tb) (.int .i64 tc) (.int .i64 td) (.int .i64 te) (.slice ua zs.length uc)) ((first + i) % R) m from fun i m hm => by
      rcases Nat.lt_trichotomy i q.length with hil | hil | hil
      · rw [List.getElem?_append_left hil] at hm
        refine ((M4.out i m hm).later b8).moved ?_ R5.out G9 _ _ _ _ _ _
        rw [← HP.out]
        exact mod_ne2 hil o3
      · subst hil
        rw [List.getElem?_append_right (Nat.le_refl _), Nat.sub_self] at hm
        cases hm
        rw [HP.out]
        exact ⟨_, set6_same cs p (by have := R5.out.1; omega) _ _ _ _ _ _, HU.out.kept G9 (type_apart HU.out R5.out (by decide))⟩
      · rw [List.getElem?_eq_none (by simp; omega)] at hm
        cases hm)
    have B9 := Lib.hid ((((Touch.refl b (ringB b w) w).grown GT.out (.inr (.inr rfl)) (Nat.le_refl _) (Nat.le_of_lt hbl)).later b8 (Nat.le_of_lt hbl)).grown G9 (.inl (by rw [HRG.out]; rfl)) (by omega) (Nat.le_of_lt hbl))
    clear L4 R4 M4 SX4 R5 HU G9 b8 hHeld e1 x0 x1 x2 x3 x4 x5 HP HVV GT hPL
    have hS1 : rcv + q.length + 1 = rcv + (q.length + 1) := by omega
    have HS1 := Lib.hid hS1
    have wS : ((rcv + q.length : Nat) : Int) + 1 = ((rcv + q.length + 1 : Nat) : Int) := by omega
    have wS2 : IntKind.i64.wrap (((rcv + q.length : Nat) : Int) + 1) = ((rcv + q.length + 1 : Nat) : Int) := (IntWalk.i64_in _ (by omega)).trans wS
    clear hS1
    generalize hSq : rcv + q.length = Sq at *
    generalize hSq1 : Sq + 1 = Sq1 at *
    obtain ⟨⟨_, _, _⟩, c3, _, _⟩ := Six.cells L9
    have f3 := L9.frozen 3
    have L10 := Lib.hid (L9.set3 (.int .i64 (Sq1 : Int)))
    clear L9
    go_upto_region 8 with fail
    go_region
    go_upto_region 9 with fail
    have b10 : Below (W9.setCell ⟨b, 3, none⟩ (.int .i64 (Sq1 : Int))).heap.size (W9.setCell ⟨b, 3, none⟩ (.int .i64 (Sq1 : Int))) (W9.setCell ⟨b, 3, none⟩ (.int .i64 (Sq1 : Int))).drew := (Below.refl _ _).drew
    have L11 := Six.later L10.out b10
    have R10 := Lib.hid (own_below (row_set (b := b) (o := 3) R9.out (by omega) (.int .i64 (Sq1 : Int))) b10)
    have M10 := Lib.hid (fun i m hm => ((M9.out i m hm).set (b := b) (o := 3) (by omega) (.int .i64 (Sq1 : Int))).later b10)
    have B10 := Lib.hid ((B9.out.set (o := 3) (x := .int .i64 (Sq1 : Int)) (Nat.le_of_lt hbl)).drew (Nat.le_of_lt hbl))
    clear L10 R9 M9 B9 b10 c3 f3
    generalize (W9.setCell ⟨b, 3, none⟩ (.int .i64 (Sq1 : Int))).drew = W10 at *
    have HE := HS1.out
    clear wS wS2 HS1
    obtain ⟨n1, hn1⟩ : ∃ n1, n1 = q.length + 1 := ⟨_, rfl⟩
    have L12 : LinkB W10 b cap (.slice (some ⟨g, 0, none⟩) R rc) first (rcv + n1) rcv hi := by rw [hn1, ← HE]; exact L11
    have HN1 := Lib.hid hn1
    have hnb : rcv + n1 ≤ 4611686018427387904 := by omega
    clear L11 HE hSq hSq1
    obtain ⟨mx, hmx⟩ : ∃ mx, mx = max hi n1 := ⟨_, rfl⟩
    have HM0 := Lib.hid hmx
    by_cases hh : (hi : Int) < (n1 : Int)
    · clear hmx
      obtain ⟨⟨_, _, _⟩, _, _, c5⟩ := Six.cells L12
      have hll := Six.lt L12
      have f5 := Six.frozen L12 5
      have HL12 := Lib.hid L12
      have LF := Lib.hid (Six.set5 L12 (.int .i64 (n1 : Int)))
      clear hn1 L12
      refine wp_region_held_drew (S := fun w' => True) (by kernel_rfl) trivial (fun hHeld => ?_)
      refine wpAnyH_take (i := 0) (v := ?v60) rfl (by kernel_rfl) (by kernel_rfl) (by kernel_rfl) (fun _ _ _ h => h) (Or.inl ⟨by rfl, ?hy60⟩) (by assumption) ?rest60
      case hy60 => (intro w hSw; (try dsimp only at hSw); go_simp; (first | done | with_reducible rfl))
      simp only [Act.put, List.setIfInBounds_toArray, List.set_cons_zero, List.set_cons_succ, List.getElem_toArray, List.getElem_cons_zero]
      refine wpAnyH_take (i := 1) (v := ?v61) rfl (by kernel_rfl) (by kernel_rfl) (by kernel_rfl) (fun _ _ _ h => h) (Or.inl ⟨by rfl, ?hy61⟩) (by assumption) ?rest61
      case hy61 => (intro w hSw; (try dsimp only at hSw); go_simp; (first | done | with_reducible rfl))
      simp only [Act.put, List.setIfInBounds_toArray, List.set_cons_zero, List.set_cons_succ, List.getElem_toArray, List.getElem_cons_zero, List.getElem_cons_succ]
      refine wpAnyH_take (i := 2) (v := ?v62) rfl (by kernel_rfl) (by kernel_rfl) (by kernel_rfl) (fun _ _ _ h => h) (Or.inl ⟨by rfl, ?hy62⟩) (by assumption) ?rest62
      case hy62 => (intro w hSw; (try dsimp only at hSw); go_simp; (first | done | with_reducible rfl))
      simp only [Act.put, List.setIfInBounds_toArray, List.set_cons_zero, List.set_cons_succ, List.getElem_toArray, List.getElem_cons_zero, List.getElem_cons_succ]
      refine wpAnyH_take (i := 3) (v := ?v63) rfl (by kernel_rfl) (by kernel_rfl) (by kernel_rfl) (fun _ _ _ h => h) (Or.inl ⟨by rfl, ?hy63⟩) (by assumption) ?rest63
      case hy63 => (intro w hSw; (try dsimp only at hSw); go_simp; (first | done | with_reducible rfl))
      simp only [Act.put, List.setIfInBounds_toArray, List.set_cons_zero, List.set_cons_succ, List.getElem_toArray, List.getElem_cons_zero, List.getElem_cons_succ]
      refine wpAnyH_take (i := 4) (v := ?v64) rfl (by kernel_rfl) (by kernel_rfl) (by kernel_rfl) (fun _ _ _ h => h) (Or.inl ⟨by rfl, ?hy64⟩) (by assumption) ?rest64
      case hy64 => (intro w hSw; (try dsimp only at hSw); go_simp; (first | done | with_reducible rfl))
      simp only [Act.put, List.setIfInBounds_toArray, List.set_cons_zero, List.set_cons_succ, List.getElem_toArray, List.getElem_cons_zero, List.getElem_cons_succ]
      refine wpAnyH_take (i := 6) (v := ?v65) rfl (by kernel_rfl) (by kernel_rfl) (by kernel_rfl) (fun _ _ _ h => h) (Or.inl ⟨by rfl, ?hy65⟩) (by assumption) ?rest65
      case hy65 => (intro w hSw; (try dsimp only at hSw); go_simp; (first | done | with_reducible rfl))
      simp only [Act.put, List.setIfInBounds_toArray, List.set_cons_zero, List.set_cons_succ, List.getElem_toArray, List.getElem_cons_zero, List.getElem_cons_succ]
      refine wpAnyH_take (i := 9) (v := ?v66) rfl (by kernel_rfl) (by kernel_rfl) (by kernel_rfl) (fun _ _ _ h => h) (Or.inl ⟨by rfl, ?hy66⟩) (by assumption) ?rest66
      case hy66 => (intro w hSw; (try dsimp only at hSw); go_simp; (first | done | with_reducible rfl))
      simp only [Act.put, List.setIfInBounds_toArray, List.set_cons_zero, List.set_cons_succ, List.getElem_toArray, List.getElem_cons_zero, List.getElem_cons_succ]
      refine wpAnyH_take (i := 10) (v := ?v67) rfl (by kernel_rfl) (by kernel_rfl) (by kernel_rfl) (fun _ _ _ h => h) (Or.inl ⟨by rfl, ?hy67⟩) (by assumption) ?rest67
      case hy67 => (intro w hSw; (try dsimp only at hSw); go_simp; (first | done | with_reducible rfl))
      simp only [Act.put, List.setIfInBounds_toArray, List.set_cons_zero, List.set_cons_succ, List.getElem_toArray, List.getElem_cons_zero, List.getElem_cons_succ]
      refine wpAnyH_ready (rs := [5, 7]) (by kernel_rfl) (by simp) ?_
      refine AllReadyH.cons rfl (fun K hK => ?_) ?_
      · skip
        try simp only [Act.put, List.setIfInBounds_toArray, List.set_cons_zero, List.set_cons_succ, List.getElem_toArray, List.getElem_cons_zero, List.getElem_cons_succ]
        go_simp
        refine hK.out _ _ trivial (fun hHeld => ?_)
        clear hK K
        try simp only [Act.put, List.setIfInBounds_toArray, List.set_cons_zero, List.set_cons_succ, List.getElem_toArray, List.getElem_cons_zero, List.getElem_cons_succ]
        refine wpAnyH_ready (rs := [7]) (by kernel_rfl) (by simp) ?_
        refine AllReadyH.cons rfl (fun K hK => ?_) AllReadyH.nil
        simp only [List.getElem_toArray, List.getElem_cons_zero, List.getElem_cons_succ]
        go_simp
        go_at_call 21
        refine (len_any b cap _ first n1 rcv hi hnb _ (Six.later HL12.out (Below.refl _ _).drew)).mono ?_
        rintro e w5 ⟨rfl, rfl⟩
        go_wp2_with fail
        refine hK.out _ _ trivial (fun hHeld => ?_)
        clear hK K
        try simp only [Act.put, List.setIfInBounds_toArray, List.set_cons_zero, List.set_cons_succ, List.getElem_toArray, List.getElem_cons_zero, List.getElem_cons_succ]
        refine wpAnyH_take (i := 8) (v := ?v68) rfl (by kernel_rfl) (by kernel_rfl) (by kernel_rfl) (fun _ _ _ h => h) (Or.inl ⟨by rfl, ?hy68⟩) (by assumption) ?rest68
        case hy68 => (intro w hSw; (try dsimp only at hSw); go_simp; (first | done | with_reducible rfl))
        simp only [Act.put, List.setIfInBounds_toArray, List.set_cons_zero, List.set_cons_succ, List.getElem_toArray, List.getElem_cons_zero, List.getElem_cons_succ]
        refine wpAnyH_take (i := 11) (v := ?v69) rfl (by kernel_rfl) (by kernel_rfl) (by kernel_rfl) (fun _ _ _ h => h) (Or.inl ⟨by rfl, ?hy69⟩) (by assumption) ?rest69
        case hy69 => (intro w hSw; (try dsimp only at hSw); go_simp; (first | done | with_reducible rfl))
        simp only [Act.put, List.setIfInBounds_toArray, List.set_cons_zero, List.set_cons_succ, List.getElem_toArray, List.getElem_cons_zero, List.getElem_cons_succ]
        refine wpAnyH_ready (rs := [12]) (by kernel_rfl) (by simp) ?_
        refine AllReadyH.cons rfl (fun K hK => ?_) AllReadyH.nil
        simp only [List.getElem_toArray, List.getElem_cons_zero, List.getElem_cons_succ]
        go_simp
        refine hK.out _ _ trivial (fun hHeld => ?_)
        clear hK K
        try simp only [Act.put, List.setIfInBounds_toArray, List.set_cons_zero, List.set_cons_succ, List.getElem_toArray, List.getElem_cons_zero, List.getElem_cons_succ]
        refine wpAnyH_done (by kernel_rfl) ?_ _
        have bF : Below (W10.setCell ⟨b, 5, none⟩ (.int .i64 (n1 : Int))).heap.size (W10.setCell ⟨b, 5, none⟩ (.int .i64 (n1 : Int))) (W10.setCell ⟨b, 5, none⟩ (.int .i64 (n1 : Int))).drew.drew := (Below.refl _ _).drew.drew
        have LZ : LinkB (W10.setCell ⟨b, 5, none⟩ (.int .i64 (n1 : Int))).drew.drew b cap (.slice (some ⟨g, 0, none⟩) R rc) first (rcv + n1) rcv n1 := Six.later LF.out bF
        have RZ := Lib.hid (own_below (row_set (b := b) (o := 5) R10.out (by omega) (.int .i64 (n1 : Int))) bF)
        have MZ := Lib.hid (fun i m hm => ((M10.out i m hm).set (b := b) (o := 5) (by omega) (.int .i64 (n1 : Int))).later bF)
        have BZ := Lib.hid ((B10.out.set (o := 5) (x := .int .i64 (n1 : Int)) (Nat.le_of_lt hbl)).later (Below.refl _ _).drew.drew (Nat.le_of_lt hbl))
        clear hHeld c5 f5 LF R10 M10 B10 bF
        go_wp2_with fail
        go_ret
        have LZ' : LinkB (W10.setCell ⟨b, 5, none⟩ (.int .i64 (n1 : Int))).drew.drew b cap (.slice (some ⟨g, 0, none⟩) R rc) first (rcv + (q ++ [(⟨⟨ta, tb, tc, td, te⟩, zs⟩ : Ms)]).length) rcv (max hi (q.length + 1)) := by
          rw [show (q ++ [(⟨⟨ta, tb, tc, td, te⟩, zs⟩ : Ms)]).length = n1 by rw [List.length_append, HN1.out]; rfl, show max hi (q.length + 1) = n1 by have := HN1.out; omega]
          exact LZ
        exact ⟨rfl, ⟨hbB, Nat.le_trans hBw BZ.out.1.size, first, R, _, _, LZ', RZ.out, ⟨by rw [List.length_append]; exact o3, o4, .inl o5⟩, MZ.out⟩, BZ.out, .inl ((ringB_of LZ').trans HRG.out.symm)⟩
      refine AllReadyH.cons rfl (fun K hK => ?_) AllReadyH.nil
      try simp only [Act.put, List.setIfInBounds_toArray, List.set_cons_zero, List.set_cons_succ, List.getElem_toArray, List.getElem_cons_zero, List.getElem_cons_succ]
      go_simp
      go_at_call 21
      refine (len_any b cap _ first n1 rcv hi hnb _ (Six.later HL12.out (Below.refl _ _).drew)).mono ?_
      rintro e w5 ⟨rfl, rfl⟩
      go_wp2_with fail
      refine hK.out _ _ trivial (fun hHeld => ?_)
      clear hK K
      try simp only [Act.put, List.setIfInBounds_toArray, List.set_cons_zero, List.set_cons_succ, List.getElem_toArray, List.getElem_cons_zero, List.getElem_cons_succ]
      refine wpAnyH_ready (rs := [5]) (by kernel_rfl) (by simp) ?_
      refine AllReadyH.cons rfl (fun K hK => ?_) AllReadyH.nil
      simp only [List.getElem_toArray, List.getElem_cons_zero, List.getElem_cons_succ]
      go_simp
      refine hK.out _ _ trivial (fun hHeld => ?_)
      clear hK K
      try simp only [Act.put, List.setIfInBounds_toArray, List.set_cons_zero, List.set_cons_succ, List.getElem_toArray, List.getElem_cons_zero, List.getElem_cons_succ]
      refine wpAnyH_take (i := 8) (v := ?v70) rfl (by kernel_rfl) (by kernel_rfl) (by kernel_rfl) (fun _ _ _ h => h) (Or.inl ⟨by rfl, ?hy70⟩) (by assumption) ?rest70
      case hy70 => (intro w hSw; (try dsimp only at hSw); go_simp; (first | done | with_reducible rfl))
      simp only [Act.put, List.setIfInBounds_toArray, List.set_cons_zero, List.set_cons_succ, List.getElem_toArray, List.getElem_cons_zero, List.getElem_cons_succ]
      refine wpAnyH_take (i := 11) (v := ?v71) rfl (by kernel_rfl) (by kernel_rfl) (by kernel_rfl) (fun _ _ _ h => h) (Or.inl ⟨by rfl, ?hy71⟩) (by assumption) ?rest71
      case hy71 => (intro w hSw; (try dsimp only at hSw); go_simp; (first | done | with_reducible rfl))
      simp only [Act.put, List.setIfInBounds_toArray, List.set_cons_zero, List.set_cons_succ, List.getElem_toArray, List.getElem_cons_zero, List.getElem_cons_succ]
      refine wpAnyH_ready (rs := [12]) (by kernel_rfl) (by simp) ?_
      refine AllReadyH.cons rfl (fun K hK => ?_) AllReadyH.nil
      simp only [List.getElem_toArray, List.getElem_cons_zero, List.getElem_cons_succ]
      go_simp
      refine hK.out _ _ trivial (fun hHeld => ?_)
      clear hK K
      try simp only [Act.put, List.setIfInBounds_toArray, List.set_cons_zero, List.set_cons_succ, List.getElem_toArray, List.getElem_cons_zero, List.getElem_cons_succ]
      refine wpAnyH_done (by kernel_rfl) ?_ _
      have bF : Below (W10.setCell ⟨b, 5, none⟩ (.int .i64 (n1 : Int))).heap.size (W10.setCell ⟨b, 5, none⟩ (.int .i64 (n1 : Int))) (W10.setCell ⟨b, 5, none⟩ (.int .i64 (n1 : Int))).drew.drew := (Below.refl _ _).drew.drew
      have LZ : LinkB (W10.setCell ⟨b, 5, none⟩ (.int .i64 (n1 : Int))).drew.drew b cap (.slice (some ⟨g, 0, none⟩) R rc) first (rcv + n1) rcv n1 := Six.later LF.out bF
      have RZ := Lib.hid (own_below (row_set (b := b) (o := 5) R10.out (by omega) (.int .i64 (n1 : Int))) bF)
      have MZ := Lib.hid (fun i m hm => ((M10.out i m hm).set (b := b) (o := 5) (by omega) (.int .i64 (n1 : Int))).later bF)
      have BZ := Lib.hid ((B10.out.set (o := 5) (x := .int .i64 (n1 : Int)) (Nat.le_of_lt hbl)).later (Below.refl _ _).drew.drew (Nat.le_of_lt hbl))
      clear hHeld c5 f5 LF R10 M10 B10 bF
      go_wp2_with fail
      go_ret
      have LZ' : LinkB (W10.setCell ⟨b, 5, none⟩ (.int .i64 (n1 : Int))).drew.drew b cap (.slice (some ⟨g, 0, none⟩) R rc) first (rcv + (q ++ [(⟨⟨ta, tb, tc, td, te⟩, zs⟩ : Ms)]).length) rcv (max hi (q.length + 1)) := by
        rw [show (q ++ [(⟨⟨ta, tb, tc, td, te⟩, zs⟩ : Ms)]).length = n1 by rw [List.length_append, HN1.out]; rfl, show max hi (q.length + 1) = n1 by have := HN1.out; omega]
        exact LZ
      exact ⟨rfl, ⟨hbB, Nat.le_trans hBw BZ.out.1.size, first, R, _, _, LZ', RZ.out, ⟨by rw [List.length_append]; exact o3, o4, .inl o5⟩, MZ.out⟩, BZ.out, .inl ((ringB_of LZ').trans HRG.out.symm)⟩
    · clear hmx
      obtain ⟨⟨_, _, _⟩, _, _, c5⟩ := Six.cells L12
      have hll := Six.lt L12
      have f5 := Six.frozen L12 5
      have HL12 := Lib.hid L12
      have LF := Lib.hid (Six.set5 L12 (.int .i64 (hi : Int)))
      clear hn1 L12
      refine wp_region_held_drew (S := fun w' => True) (by kernel_rfl) trivial (fun hHeld => ?_)
      refine wpAnyH_take (i := 0) (v := ?v72) rfl (by kernel_rfl) (by kernel_rfl) (by kernel_rfl) (fun _ _ _ h => h) (Or.inl ⟨by rfl, ?hy72⟩) (by assumption) ?rest72
      case hy72 => (intro w hSw; (try dsimp only at hSw); go_simp; (first | done | with_reducible rfl))
      simp only [Act.put, List.setIfInBounds_toArray, List.set_cons_zero, List.set_cons_succ, List.getElem_toArray, List.getElem_cons_zero]
      refine wpAnyH_take (i := 1) (v := ?v73) rfl (by kernel_rfl) (by kernel_rfl) (by kernel_rfl) (fun _ _ _ h => h) (Or.inl ⟨by rfl, ?hy73⟩) (by assumption) ?rest73
      case hy73 => (intro w hSw; (try dsimp only at hSw); go_simp; (first | done | with_reducible rfl))
      simp only [Act.put, List.setIfInBounds_toArray, List.set_cons_zero, List.set_cons_succ, List.getElem_toArray, List.getElem_cons_zero, List.getElem_cons_succ]
      refine wpAnyH_take (i := 2) (v := ?v74) rfl (by kernel_rfl) (by kernel_rfl) (by kernel_rfl) (fun _ _ _ h => h) (Or.inl ⟨by rfl, ?hy74⟩) (by assumption) ?rest74
      case hy74 => (intro w hSw; (try dsimp only at hSw); go_simp; (first | done | with_reducible rfl))
      simp only [Act.put, List.setIfInBounds_toArray, List.set_cons_zero, List.set_cons_succ, List.getElem_toArray, List.getElem_cons_zero, List.getElem_cons_succ]
      refine wpAnyH_take (i := 3) (v := ?v75) rfl (by kernel_rfl) (by kernel_rfl) (by kernel_rfl) (fun _ _ _ h => h) (Or.inl ⟨by rfl, ?hy75⟩) (by assumption) ?rest75
      case hy75 => (intro w hSw; (try dsimp only at hSw); go_simp; (first | done | with_reducible rfl))
      simp only [Act.put, List.setIfInBounds_toArray, List.set_cons_zero, List.set_cons_succ, List.getElem_toArray, List.getElem_cons_zero, List.getElem_cons_succ]
      refine wpAnyH_take (i := 4) (v := ?v76) rfl (by kernel_rfl) (by kernel_rfl) (by kernel_rfl) (fun _ _ _ h => h) (Or.inl ⟨by rfl, ?hy76⟩) (by assumption) ?rest76
      case hy76 => (intro w hSw; (try dsimp only at hSw); go_simp; (first | done | with_reducible rfl))
      simp only [Act.put, List.setIfInBounds_toArray, List.set_cons_zero, List.set_cons_succ, List.getElem_toArray, List.getElem_cons_zero, List.getElem_cons_succ]
      refine wpAnyH_take (i := 6) (v := ?v77) rfl (by kernel_rfl) (by kernel_rfl) (by kernel_rfl) (fun _ _ _ h => h) (Or.inl ⟨by rfl, ?hy77⟩) (by assumption) ?rest77
      case hy77 => (intro w hSw; (try dsimp only at hSw); go_simp; (first | done | with_reducible rfl))
      simp only [Act.put, List.setIfInBounds_toArray, List.set_cons_zero, List.set_cons_succ, List.getElem_toArray, List.getElem_cons_zero, List.getElem_cons_succ]
      refine wpAnyH_take (i := 9) (v := ?v78) rfl (by kernel_rfl) (by kernel_rfl) (by kernel_rfl) (fun _ _ _ h => h) (Or.inl ⟨by rfl, ?hy78⟩) (by assumption) ?rest78
      case hy78 => (intro w hSw; (try dsimp only at hSw); go_simp; (first | done | with_reducible rfl))
      simp only [Act.put, List.setIfInBounds_toArray, List.set_cons_zero, List.set_cons_succ, List.getElem_toArray, List.getElem_cons_zero, List.getElem_cons_succ]
      refine wpAnyH_take (i := 10) (v := ?v79) rfl (by kernel_rfl) (by kernel_rfl) (by kernel_rfl) (fun _ _ _ h => h) (Or.inl ⟨by rfl, ?hy79⟩) (by assumption) ?rest79
      case hy79 => (intro w hSw; (try dsimp only at hSw); go_simp; (first | done | with_reducible rfl))
      simp only [Act.put, List.setIfInBounds_toArray, List.set_cons_zero, List.set_cons_succ, List.getElem_toArray, List.getElem_cons_zero, List.getElem_cons_succ]
      refine wpAnyH_ready (rs := [5, 7]) (by kernel_rfl) (by simp) ?_
      refine AllReadyH.cons rfl (fun K hK => ?_) ?_
      · skip
        try simp only [Act.put, List.setIfInBounds_toArray, List.set_cons_zero, List.set_cons_succ, List.getElem_toArray, List.getElem_cons_zero, List.getElem_cons_succ]
        go_simp
        refine hK.out _ _ trivial (fun hHeld => ?_)
        clear hK K
        try simp only [Act.put, List.setIfInBounds_toArray, List.set_cons_zero, List.set_cons_succ, List.getElem_toArray, List.getElem_cons_zero, List.getElem_cons_succ]
        refine wpAnyH_ready (rs := [7]) (by kernel_rfl) (by simp) ?_
        refine AllReadyH.cons rfl (fun K hK => ?_) AllReadyH.nil
        simp only [List.getElem_toArray, List.getElem_cons_zero, List.getElem_cons_succ]
        go_simp
        go_at_call 21
        refine (len_any b cap _ first n1 rcv hi hnb _ (Six.later HL12.out (Below.refl _ _).drew)).mono ?_
        rintro e w5 ⟨rfl, rfl⟩
        go_wp2_with fail
        refine hK.out _ _ trivial (fun hHeld => ?_)
        clear hK K
        try simp only [Act.put, List.setIfInBounds_toArray, List.set_cons_zero, List.set_cons_succ, List.getElem_toArray, List.getElem_cons_zero, List.getElem_cons_succ]
        refine wpAnyH_take (i := 8) (v := ?v80) rfl (by kernel_rfl) (by kernel_rfl) (by kernel_rfl) (fun _ _ _ h => h) (Or.inl ⟨by rfl, ?hy80⟩) (by assumption) ?rest80
        case hy80 => (intro w hSw; (try dsimp only at hSw); go_simp; (first | done | with_reducible rfl))
        simp only [Act.put, List.setIfInBounds_toArray, List.set_cons_zero, List.set_cons_succ, List.getElem_toArray, List.getElem_cons_zero, List.getElem_cons_succ]
        refine wpAnyH_take (i := 11) (v := ?v81) rfl (by kernel_rfl) (by kernel_rfl) (by kernel_rfl) (fun _ _ _ h => h) (Or.inl ⟨by rfl, ?hy81⟩) (by assumption) ?rest81
        case hy81 => (intro w hSw; (try dsimp only at hSw); go_simp; (first | done | with_reducible rfl))
        simp only [Act.put, List.setIfInBounds_toArray, List.set_cons_zero, List.set_cons_succ, List.getElem_toArray, List.getElem_cons_zero, List.getElem_cons_succ]
        refine wpAnyH_ready (rs := [12]) (by kernel_rfl) (by simp) ?_
        refine AllReadyH.cons rfl (fun K hK => ?_) AllReadyH.nil
        simp only [List.getElem_toArray, List.getElem_cons_zero, List.getElem_cons_succ]
        go_simp
        refine hK.out _ _ trivial (fun hHeld => ?_)
        clear hK K
        try simp only [Act.put, List.setIfInBounds_toArray, List.set_cons_zero, List.set_cons_succ, List.getElem_toArray, List.getElem_cons_zero, List.getElem_cons_succ]
        refine wpAnyH_done (by kernel_rfl) ?_ _
        have bF : Below (W10.setCell ⟨b, 5, none⟩ (.int .i64 (hi : Int))).heap.size (W10.setCell ⟨b, 5, none⟩ (.int .i64 (hi : Int))) (W10.setCell ⟨b, 5, none⟩ (.int .i64 (hi : Int))).drew.drew := (Below.refl _ _).drew.drew
        have LZ : LinkB (W10.setCell ⟨b, 5, none⟩ (.int .i64 (hi : Int))).drew.drew b cap (.slice (some ⟨g, 0, none⟩) R rc) first (rcv + n1) rcv hi := Six.later LF.out bF
        have RZ := Lib.hid (own_below (row_set (b := b) (o := 5) R10.out (by omega) (.int .i64 (hi : Int))) bF)
        have MZ := Lib.hid (fun i m hm => ((M10.out i m hm).set (b := b) (o := 5) (by omega) (.int .i64 (hi : Int))).later bF)
        have BZ := Lib.hid ((B10.out.set (o := 5) (x := .int .i64 (hi : Int)) (Nat.le_of_lt hbl)).later (Below.refl _ _).drew.drew (Nat.le_of_lt hbl))
        clear hHeld c5 f5 LF R10 M10 B10 bF
        go_wp2_with fail
        go_ret
        have LZ' : LinkB (W10.setCell ⟨b, 5, none⟩ (.int .i64 (hi : Int))).drew.drew b cap (.slice (some ⟨g, 0, none⟩) R rc) first (rcv + (q ++ [(⟨⟨ta, tb, tc, td, te⟩, zs⟩ : Ms)]).length) rcv (max hi (q.length + 1)) := by
          rw [show (q ++ [(⟨⟨ta, tb, tc, td, te⟩, zs⟩ : Ms)]).length = n1 by rw [List.length_append, HN1.out]; rfl, show max hi (q.length + 1) = hi by have := HN1.out; omega]
          exact LZ
        exact ⟨rfl, ⟨hbB, Nat.le_trans hBw BZ.out.1.size, first, R, _, _, LZ', RZ.out, ⟨by rw [List.length_append]; exact o3, o4, .inl o5⟩, MZ.out⟩, BZ.out, .inl ((ringB_of LZ').trans HRG.out.symm)⟩
      refine AllReadyH.cons rfl (fun K hK => ?_) AllReadyH.nil
      try simp only [Act.put, List.setIfInBounds_toArray, List.set_cons_zero, List.set_cons_succ, List.getElem_toArray, List.getElem_cons_zero, List.getElem_cons_succ]
      go_simp
      go_at_call 21
      refine (len_any b cap _ first n1 rcv hi hnb _ (Six.later HL12.out (Below.refl _ _).drew)).mono ?_
      rintro e w5 ⟨rfl, rfl⟩
      go_wp2_with fail
      refine hK.out _ _ trivial (fun hHeld => ?_)
      clear hK K
      try simp only [Act.put, List.setIfInBounds_toArray, List.set_cons_zero, List.set_cons_succ, List.getElem_toArray, List.getElem_cons_zero, List.getElem_cons_succ]
      refine wpAnyH_ready (rs := [5]) (by kernel_rfl) (by simp) ?_
      refine AllReadyH.cons rfl (fun K hK => ?_) AllReadyH.nil
      simp only [List.getElem_toArray, List.getElem_cons_zero, List.getElem_cons_succ]
      go_simp
      refine hK.out _ _ trivial (fun hHeld => ?_)
      clear hK K
      try simp only [Act.put, List.setIfInBounds_toArray, List.set_cons_zero, List.set_cons_succ, List.getElem_toArray, List.getElem_cons_zero, List.getElem_cons_succ]
      refine wpAnyH_take (i := 8) (v := ?v82) rfl (by kernel_rfl) (by kernel_rfl) (by kernel_rfl) (fun _ _ _ h => h) (Or.inl ⟨by rfl, ?hy82⟩) (by assumption) ?rest82
      case hy82 => (intro w hSw; (try dsimp only at hSw); go_simp; (first | done | with_reducible rfl))
      simp only [Act.put, List.setIfInBounds_toArray, List.set_cons_zero, List.set_cons_succ, List.getElem_toArray, List.getElem_cons_zero, List.getElem_cons_succ]
      refine wpAnyH_take (i := 11) (v := ?v83) rfl (by kernel_rfl) (by kernel_rfl) (by kernel_rfl) (fun _ _ _ h => h) (Or.inl ⟨by rfl, ?hy83⟩) (by assumption) ?rest83
      case hy83 => (intro w hSw; (try dsimp only at hSw); go_simp; (first | done | with_reducible rfl))
      simp only [Act.put, List.setIfInBounds_toArray, List.set_cons_zero, List.set_cons_succ, List.getElem_toArray, List.getElem_cons_zero, List.getElem_cons_succ]
      refine wpAnyH_ready (rs := [12]) (by kernel_rfl) (by simp) ?_
      refine AllReadyH.cons rfl (fun K hK => ?_) AllReadyH.nil
      simp only [List.getElem_toArray, List.getElem_cons_zero, List.getElem_cons_succ]
      go_simp
      refine hK.out _ _ trivial (fun hHeld => ?_)
      clear hK K
      try simp only [Act.put, List.setIfInBounds_toArray, List.set_cons_zero, List.set_cons_succ, List.getElem_toArray, List.getElem_cons_zero, List.getElem_cons_succ]
      refine wpAnyH_done (by kernel_rfl) ?_ _
      have bF : Below (W10.setCell ⟨b, 5, none⟩ (.int .i64 (hi : Int))).heap.size (W10.setCell ⟨b, 5, none⟩ (.int .i64 (hi : Int))) (W10.setCell ⟨b, 5, none⟩ (.int .i64 (hi : Int))).drew.drew := (Below.refl _ _).drew.drew
      have LZ : LinkB (W10.setCell ⟨b, 5, none⟩ (.int .i64 (hi : Int))).drew.drew b cap (.slice (some ⟨g, 0, none⟩) R rc) first (rcv + n1) rcv hi := Six.later LF.out bF
      have RZ := Lib.hid (own_below (row_set (b := b) (o := 5) R10.out (by omega) (.int .i64 (hi : Int))) bF)
      have MZ := Lib.hid (fun i m hm => ((M10.out i m hm).set (b := b) (o := 5) (by omega) (.int .i64 (hi : Int))).later bF)
      have BZ := Lib.hid ((B10.out.set (o := 5) (x := .int .i64 (hi : Int)) (Nat.le_of_lt hbl)).later (Below.refl _ _).drew.drew (Nat.le_of_lt hbl))
      clear hHeld c5 f5 LF R10 M10 B10 bF
      go_wp2_with fail
      go_ret
      have LZ' : LinkB (W10.setCell ⟨b, 5, none⟩ (.int .i64 (hi : Int))).drew.drew b cap (.slice (some ⟨g, 0, none⟩) R rc) first (rcv + (q ++ [(⟨⟨ta, tb, tc, td, te⟩, zs⟩ : Ms)]).length) rcv (max hi (q.length + 1)) := by
        rw [show (q ++ [(⟨⟨ta, tb, tc, td, te⟩, zs⟩ : Ms)]).length = n1 by rw [List.length_append, HN1.out]; rfl, show max hi (q.length + 1) = hi by have := HN1.out; omega]
        exact LZ
      exact ⟨rfl, ⟨hbB, Nat.le_trans hBw BZ.out.1.size, first, R, _, _, LZ', RZ.out, ⟨by rw [List.length_append]; exact o3, o4, .inl o5⟩, MZ.out⟩, BZ.out, .inl ((ringB_of LZ').trans HRG.out.symm)⟩
end Go.Proofs.Ytgbgmmakiimbbaa
