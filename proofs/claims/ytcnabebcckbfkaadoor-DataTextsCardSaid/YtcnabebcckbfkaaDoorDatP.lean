/- Layer 10: copies of lists of examples. -/
import Derived.Test.YtcnabebcckbfkaaDoorDatG
import Derived.Test.YtcnabebcckbfkaaDoorDatC
import Derived.Deep.Cut
import Derived.Deep.RegionHeld3
import Derived.Deep.AppendLies
import Derived.Laws.AppendOwnNone
namespace Go.Proofs.YtcnabebcckbfkaaDoor
open Go.RowKit
set_option linter.unusedVariables false
/-- append of a list to a row of the call's own, as a step of a statement that draws its order -/
theorem step_list {P : Program} {ops : Array Oper} {o : Oper} {a : Act} {K : Act → World → Prop} {Q : Exit → Act → World → Prop} {X : Prop} {W : World} {t e : TypeId} {z : Value} {size bytes base n m : Nat} {v u : Value} {xs ys : List Value}
    (hE : Elem P t e z size bytes) (hgd : o.guard = none) (s x : Operand) (ho : o.op = .call { callee := .builtin .append, args := #[s, x], argTypes := #[t, t] })
    (hs : a.eval s = v) (hx : a.eval x = u) (hown : W.ownsRow base e size v n xs) (hl : ys.length = m * size)
    (hsrc : (u = .slice none 0 0 ∧ ys = []) ∨ ∃ ad c, u = .slice (some ad) m c ∧ ∀ j y, ys[j]? = some y → W.cell? (ad.add j) = some y)
    (h1 : ∀ y ∈ ys, y.oneCell' = true) (h63 : n + m ≤ maxLen) (hbytes : (n + m) * bytes ≤ 140737488355328) (hbase : base ≤ W.heap.size)
    (h : ∀ v' w', w'.ownsRow base e size v' (n + m) (xs ++ ys) → W.grownBy w' v.ownBlock → K (a.put o.dst v') w') : if Region.wanted o (yielded ops a.tmps) = true then Oper.wp P o a W K Q else X := by
  have hw : Region.wanted o (yielded ops a.tmps) = true := by simp [Region.wanted, hgd]
  rw [if_pos hw]
  obtain ⟨i, hi, hz0, hz1, hz2⟩ := hE.hi
  rcases hsrc with ⟨rfl, rfl⟩ | ⟨ad, c, rfl, hc⟩
  · have hm : m = 0 := by
      rcases Nat.eq_zero_or_pos m with h0 | h0
      · exact h0
      · have := Nat.mul_pos h0 hE.hsz
        simp at hl
        omega
    subst hm
    have hrun := run_append_owned_none (P := P) (w := W) base t o.type e i size hE.ht hi v n xs hown
    unfold Oper.wp
    simp [execOp, ho, resolve, invoke, builtin, hs, hx, hrun, Result.andThen]
    exact h v W (by simpa using hown) (World.grownBy.refl _ _)
  · obtain ⟨v', w', hr, h2, h3, _⟩ := run_append_own (P := P) (w := W) base t o.type e i z size bytes hE.ht hi hz0 hz1 hz2 hE.hzs hE.hsz v n xs hown ad m c ys hl hc h1 h63 hbytes hbase
    unfold Oper.wp
    simp [execOp, ho, resolve, invoke, builtin, hs, hx, hr, Result.andThen]
    exact h v' w' h2 h3
theorem refClone_any (v : Value) (zs : List Int) (hm : zs.length * 8 ≤ 140737488351232) (n₀ : Nat) (w : World) (hL : IntsW .i64 n₀ w v zs) :
    Calls Tryd.prog 40 #[v] w (ClonedTo 2 1 zs.length (zs.map (Value.int .i64)) w) := by
  obtain ⟨i0, hi, hz0, hz1, hz2⟩ := elemV.hi
  have HO := Lib.hid (World.ownsRow_made (base := w.heap.size) (e := 2) (size := 1) w #[] 0 (Nat.le_refl _) (Nat.zero_le _) (by simp))
  rcases hL.src with ⟨rfl, rfl⟩ | ⟨ad, c, rfl, hc⟩
  · clear hL
    go_enter Tryd.func40, Tryd.ntmps40
    go_wp2_with (at_builtin; refine wpList_append_own_none rfl _ _ 22 rfl w.heap.size 2 i0 1 Tryd.underlying22 hi _ _ _ rfl HO.out rfl ?_)
    go_ret
    refine ⟨_, rfl, HO.out, ?_⟩
    exact (Below.refl w.heap.size w).alloc (Nat.le_refl _) _
  · clear hL
    have HC := Lib.hid hc
    clear hc
    go_enter Tryd.func40, Tryd.ntmps40
    go_wp2_with (at_builtin; refine wpList_append_own _ rfl _ _ 22 rfl w.heap.size 2 i0 (.int .i64 0) 1 8 Tryd.underlying22 hi hz0 hz1 hz2 rfl (by decide) _ _ _ rfl HO.out ad zs.length c (zs.map (Value.int .i64)) rfl ?c0 ?c1 ?c2 ?c3 ?c4 ?c5 ?_; (case c0 => simp); (case c1 => intro j u hj; exact cell_step ((Below.refl _ _).alloc (Nat.le_refl _) _) (HC.out j u hj)); (case c2 => intro u hu; simp only [List.mem_map] at hu; obtain ⟨z, _, rfl⟩ := hu; rfl); (case c3 => unfold maxLen; omega); (case c4 => omega); (case c5 => simp); intro v' w1 hown1 hgrow1 _; have hg1 := Lib.hid hgrow1; have ho1 := Lib.hid hown1; clear hgrow1 hown1)
    go_ret
    refine ⟨_, rfl, by simpa using ho1.out, ?_⟩
    exact ((Below.refl w.heap.size w).alloc (Nat.le_refl _) _).grown hg1.out (by simp) (fun k e => (HO.out.lt k e).1)
theorem elemX : Elem Tryd.prog 26 24 (.agg #[.slice none 0 0, .slice none 0 0]) 2 48 := ⟨Tryd.underlying26, info_parts (by kernel_rfl), rfl, by decide⟩
/-- two rows of different elements lie in different blocks -/
theorem rows_apart {w : World} {b1 b2 s1 s2 n1 n2 : Nat} {e1 e2 : TypeId} {v1 v2 : Value} {x1 x2 : List Value} (h1 : w.ownsRow b1 e1 s1 v1 n1 x1) (h2 : w.ownsRow b2 e2 s2 v2 n2 x2) (hne : e1 ≠ e2) : v1.ownBlock = none ∨ v1.ownBlock ≠ v2.ownBlock := by
  rcases h1.2 with ⟨rfl, _⟩ | ⟨g, cap, cur, rfl, _, hg, _⟩
  · exact .inl rfl
  · refine .inr fun e => ?_
    rcases h2.2 with ⟨rfl, _⟩ | ⟨g', cap', cur', rfl, _, hg', _⟩
    · cases e
    · have : g = g' := by cases e; rfl
      subst this
      rw [hg] at hg'
      cases hg'
      exact hne rfl
def intsV (zs : List Int) : List Value := zs.map (Value.int .i64)
/-- the first k examples of a list, copied: cells two by two, each a row of the call's own -/
def PairsO (N : Nat) (w : World) (cells : List Value) (es : List Ex) (k : Nat) : Prop :=
  cells.length = k * 2 ∧ ∀ j, j < k → ∃ vx vy, cells[j * 2]? = some vx ∧ cells[j * 2 + 1]? = some vy ∧ w.ownsRow N 2 1 vx (exAt es j).1.length (intsV (exAt es j).1) ∧ w.ownsRow N 2 1 vy (exAt es j).2.length (intsV (exAt es j).2)
theorem PairsO.nil (N : Nat) (w : World) (es : List Ex) : PairsO N w [] es 0 := ⟨rfl, fun j hj => absurd hj (Nat.not_lt_zero j)⟩
theorem PairsO.later {N : Nat} {w w' : World} {cells : List Value} {es : List Ex} {k : Nat} (h : PairsO N w cells es k) (hb : Below w.heap.size w w') : PairsO N w' cells es k :=
  ⟨h.1, fun j hj => by obtain ⟨vx, vy, h1, h2, h3, h4⟩ := h.2 j hj; exact ⟨vx, vy, h1, h2, own_below h3 hb, own_below h4 hb⟩⟩
theorem PairsO.appended {N b s n : Nat} {w w' : World} {cells xs : List Value} {es : List Ex} {k : Nat} {v : Value} {e : TypeId} (h : PairsO N w cells es k) (ho : w.ownsRow b e s v n xs) (he : 2 ≠ e) (hg : w.grownBy w' v.ownBlock) : PairsO N w' cells es k :=
  ⟨h.1, fun j hj => by obtain ⟨vx, vy, h1, h2, h3, h4⟩ := h.2 j hj; exact ⟨vx, vy, h1, h2, h3.kept hg (rows_apart h3 ho he), h4.kept hg (rows_apart h4 ho he)⟩⟩
theorem PairsO.snoc {N : Nat} {w : World} {cells : List Value} {es : List Ex} {k : Nat} {vx vy : Value} (h : PairsO N w cells es k) (hx : w.ownsRow N 2 1 vx (exAt es k).1.length (intsV (exAt es k).1)) (hy : w.ownsRow N 2 1 vy (exAt es k).2.length (intsV (exAt es k).2)) : PairsO N w (cells ++ [vx, vy]) es (k + 1) := by
  refine ⟨by rw [List.length_append, h.1]; simp; omega, fun j hj => ?_⟩
  by_cases e : j = k
  · subst e
    refine ⟨vx, vy, ?_, ?_, hx, hy⟩
    · rw [List.getElem?_append_right (by rw [h.1]; omega), h.1, Nat.sub_self]; rfl
    · rw [List.getElem?_append_right (by rw [h.1]; omega), h.1, show j * 2 + 1 - j * 2 = 1 by omega]; rfl
  · obtain ⟨ux, uy, h1, h2, h3, h4⟩ := h.2 j (by omega)
    refine ⟨ux, uy, ?_, ?_, h3, h4⟩
    · rw [List.getElem?_append_left (by rw [h.1]; omega)]; exact h1
    · rw [List.getElem?_append_left (by rw [h.1]; omega)]; exact h2
/-- what a copy of a list of examples is -/
def CopiedX (es : List Ex) (w : World) (e : Ending) (w' : World) : Prop :=
  ∃ v cells, e = .returned v ∧ w'.ownsRow w.heap.size 24 2 v es.length cells ∧ PairsO w.heap.size w' cells es es.length ∧ Below w.heap.size w w'
set_option maxHeartbeats 4000000 in
theorem refCloneX_any (v : Value) (es : List Ex) (hl : es.length ≤ 1000) (hm : ∀ k, k < es.length → (exAt es k).1.length ≤ 1000000 ∧ (exAt es k).2.length ≤ 1000000) (w : World) (hv : ExsAt w.heap.size w v es) :
    Calls Tryd.prog 18 #[v] w (CopiedX es w) := by
  obtain ⟨a, c, rfl⟩ := hv.value
  have HV := Lib.hid hv
  have HM := Lib.hid hm
  have X0 := Lib.hid (And.intro (World.ownsRow_nil w w.heap.size 24 2) (And.intro (PairsO.nil w.heap.size w es) (Below.refl w.heap.size w)))
  clear hv hm
  generalize hN : w.heap.size = N at *
  go_enter Tryd.func18, Tryd.ntmps18
  go_wp2_with fail
  go_loopw [3, 4] (fun rv iv wr => ∃ k : Nat, ∃ cells : List Value, k ≤ es.length ∧ iv = .int .i64 k ∧ Hid (wr.ownsRow N 24 2 rv k cells ∧ PairsO N wr cells es k ∧ Below N w wr)) (fun _ iv _ => es.length - (intOf iv).toNat)
  case atStart => exact ⟨0, [], Nat.zero_le _, rfl, X0⟩
  case round =>
    clear X0
    obtain ⟨k, cells, hk, rfl, HX⟩ := hrel
    by_cases hlt : k < es.length
    · have HE := Lib.hid ((HV.out.below HX.out.2.2).at hlt)
      obtain ⟨b, off, rfl, hb, ax, cx, ay, cy, c0, c1, ix, iy⟩ := HE.out
      have hm0 := HM.out k hlt
      have hbw : b < wr.heap.size := World.block_lt_of_cell? _ _ c0
      have hNw : N ≤ wr.heap.size := by have := HX.out.2.2.size; omega
      have HIX := Lib.hid (And.intro ix iy)
      have i0 : (0 : Int) ≤ (k : Int) := by omega
      have i1 : (k : Int) < (es.length : Int) := by omega
      have i3 : k ≤ 1000 := by omega
      obtain ⟨ra, rc, rfl⟩ := own_value HX.out.1
      clear ix iy HE
      go_wp2_with fail
      go_upto_region 5 with fail
      refine wp_region_held_drew (S := fun w' => w'.cell? ⟨b, off + k * 2, none⟩ = some (.slice ax (exAt es k).1.length cx) ∧ w'.cell? ⟨b, off + k * 2 + 1, none⟩ = some (.slice ay (exAt es k).2.length cy)) (by kernel_rfl) ?_ (fun hHeld => ?_)
      · exact ⟨c0, c1⟩
      have D0 := Lib.hid ((Below.refl wr.heap.size wr).drew)
      generalize wr.drew = W0 at *
      refine wpAnyH_take (i := 0) (v := ?v1) rfl (by kernel_rfl) (by kernel_rfl) (by kernel_rfl) (fun _ _ _ h => h) (Or.inl ⟨by rfl, ?hy1⟩) (by assumption) ?rest1
      case hy1 => (intro w hSw; (try dsimp only at hSw); go_simp; (first | done | with_reducible rfl))
      simp only [Act.put, List.setIfInBounds_toArray, List.set_cons_zero, List.set_cons_succ, List.getElem_toArray, List.getElem_cons_zero]
      refine wpAnyH_take (i := 1) (v := ?v2) rfl (by kernel_rfl) (by kernel_rfl) (by kernel_rfl) (fun _ _ _ h => h) (Or.inl ⟨by rfl, ?hy2⟩) (by assumption) ?rest2
      case hy2 => (intro w hSw; (try dsimp only at hSw); go_simp; (first | done | with_reducible rfl))
      simp only [Act.put, List.setIfInBounds_toArray, List.set_cons_zero, List.set_cons_succ, List.getElem_toArray, List.getElem_cons_zero, List.getElem_cons_succ]
      refine wpAnyH_take (i := 2) (v := ?v3) rfl (by kernel_rfl) (by kernel_rfl) (by kernel_rfl) (fun _ _ _ h => h) (Or.inl ⟨by rfl, ?hy3⟩) (by assumption) ?rest3
      case hy3 => (intro w hSw; (try dsimp only at hSw); go_simp; (first | done | with_reducible rfl))
      simp only [Act.put, List.setIfInBounds_toArray, List.set_cons_zero, List.set_cons_succ, List.getElem_toArray, List.getElem_cons_zero, List.getElem_cons_succ]
      refine wpAnyH_take (i := 3) (v := ?v4) rfl (by kernel_rfl) (by kernel_rfl) (by kernel_rfl) (fun _ _ _ h => h) (Or.inl ⟨by rfl, ?hy4⟩) (by assumption) ?rest4
      case hy4 => (intro w hSw; (try dsimp only at hSw); go_simp; (first | done | with_reducible rfl))
      simp only [Act.put, List.setIfInBounds_toArray, List.set_cons_zero, List.set_cons_succ, List.getElem_toArray, List.getElem_cons_zero, List.getElem_cons_succ]
      refine wpAnyH_take (i := 4) (v := ?v5) rfl (by kernel_rfl) (by kernel_rfl) (by kernel_rfl) (fun _ _ _ h => h) (Or.inl ⟨by rfl, ?hy5⟩) (by assumption) ?rest5
      case hy5 => (intro w hSw; (try dsimp only at hSw); go_simp; (first | done | with_reducible rfl))
      simp only [Act.put, List.setIfInBounds_toArray, List.set_cons_zero, List.set_cons_succ, List.getElem_toArray, List.getElem_cons_zero, List.getElem_cons_succ]
      refine wpAnyH_take (i := 5) (v := ?v6) rfl (by kernel_rfl) (by kernel_rfl) (by kernel_rfl) (fun _ _ _ h => h) (Or.inl ⟨by rfl, ?hy6⟩) (by assumption) ?rest6
      case hy6 => (intro w hSw; (try dsimp only at hSw); go_simp; (first | done | with_reducible rfl))
      simp only [Act.put, List.setIfInBounds_toArray, List.set_cons_zero, List.set_cons_succ, List.getElem_toArray, List.getElem_cons_zero, List.getElem_cons_succ]
      refine wpAnyH_take (i := 7) (v := ?v7) rfl (by kernel_rfl) (by kernel_rfl) (by kernel_rfl) (fun _ _ _ h => h) (Or.inl ⟨by rfl, ?hy7⟩) (by assumption) ?rest7
      case hy7 => (intro w hSw; (try dsimp only at hSw); go_simp; (first | done | with_reducible rfl))
      simp only [Act.put, List.setIfInBounds_toArray, List.set_cons_zero, List.set_cons_succ, List.getElem_toArray, List.getElem_cons_zero, List.getElem_cons_succ]
      refine wpAnyH_take (i := 8) (v := ?v8) rfl (by kernel_rfl) (by kernel_rfl) (by kernel_rfl) (fun _ _ _ h => h) (Or.inl ⟨by rfl, ?hy8⟩) (by assumption) ?rest8
      case hy8 => (intro w hSw; (try dsimp only at hSw); go_simp; (first | done | with_reducible rfl))
      simp only [Act.put, List.setIfInBounds_toArray, List.set_cons_zero, List.set_cons_succ, List.getElem_toArray, List.getElem_cons_zero, List.getElem_cons_succ]
      refine wpAnyH_take (i := 9) (v := ?v9) rfl (by kernel_rfl) (by kernel_rfl) (by kernel_rfl) (fun _ _ _ h => h) (Or.inl ⟨by rfl, ?hy9⟩) (by assumption) ?rest9
      case hy9 => (intro w hSw; (try dsimp only at hSw); go_simp; (first | done | with_reducible rfl))
      simp only [Act.put, List.setIfInBounds_toArray, List.set_cons_zero, List.set_cons_succ, List.getElem_toArray, List.getElem_cons_zero, List.getElem_cons_succ]
      refine wpAnyH_take (i := 10) (v := ?v10) rfl (by kernel_rfl) (by kernel_rfl) (by kernel_rfl) (fun _ _ _ h => h) (Or.inl ⟨by rfl, ?hy10⟩) (by assumption) ?rest10
      case hy10 => (intro w hSw; (try dsimp only at hSw); go_simp; (first | done | with_reducible rfl))
      simp only [Act.put, List.setIfInBounds_toArray, List.set_cons_zero, List.set_cons_succ, List.getElem_toArray, List.getElem_cons_zero, List.getElem_cons_succ]
      refine wpAnyH_take (i := 11) (v := ?v11) rfl (by kernel_rfl) (by kernel_rfl) (by kernel_rfl) (fun _ _ _ h => h) (Or.inl ⟨by rfl, ?hy11⟩) (by assumption) ?rest11
      case hy11 => (intro w hSw; (try dsimp only at hSw); go_simp; (first | done | with_reducible rfl))
      simp only [Act.put, List.setIfInBounds_toArray, List.set_cons_zero, List.set_cons_succ, List.getElem_toArray, List.getElem_cons_zero, List.getElem_cons_succ]
      refine wpAnyH_ready (rs := [6]) (by kernel_rfl) (by simp) ?_
      refine AllReadyH.cons rfl (fun K hK => ?_) AllReadyH.nil
      simp only [List.getElem_toArray, List.getElem_cons_zero, List.getElem_cons_succ]
      go_simp
      go_at_call 40
      refine (refClone_any _ (exAt es k).1 (by omega) N W0 (HIX.out.1.below (D0.out.mono hNw))).mono ?_
      rintro e W1 ⟨vx, rfl, ox, b1⟩
      have D1 := Lib.hid (D0.out.trans (b1.mono D0.out.size))
      have OX := Lib.hid (owns_mono (show N ≤ W0.heap.size from Nat.le_trans hNw D0.out.size) ox)
      have hH := And.intro (cell_step b1 hHeld.1) (cell_step b1 hHeld.2)
      clear ox b1 hHeld
      go_wp2_with fail
      refine hK.out _ _ hH (fun hHeld => ?_)
      clear hK K hH
      try simp only [Act.put, List.setIfInBounds_toArray, List.set_cons_zero, List.set_cons_succ, List.getElem_toArray, List.getElem_cons_zero, List.getElem_cons_succ]
      refine wpAnyH_ready (rs := [12]) (by kernel_rfl) (by simp) ?_
      refine AllReadyH.cons rfl (fun K hK => ?_) AllReadyH.nil
      simp only [List.getElem_toArray, List.getElem_cons_zero, List.getElem_cons_succ]
      go_simp
      go_at_call 40
      refine (refClone_any _ (exAt es k).2 (by omega) N W1 (HIX.out.2.below (D1.out.mono hNw))).mono ?_
      rintro e W2 ⟨vy, rfl, oy, b2⟩
      have D2 := Lib.hid (D1.out.trans (b2.mono D1.out.size))
      have OX2 := Lib.hid (own_below OX.out b2)
      have OY2 := Lib.hid (owns_mono (show N ≤ W1.heap.size from Nat.le_trans hNw D1.out.size) oy)
      have hH := And.intro (cell_step b2 hHeld.1) (cell_step b2 hHeld.2)
      obtain ⟨vxa, vxc, rfl⟩ := own_value OX2.out
      obtain ⟨vya, vyc, rfl⟩ := own_value OY2.out
      clear oy b2 hHeld OX
      go_wp2_with fail
      refine hK.out _ _ hH (fun hHeld => ?_)
      clear hK K hH
      try simp only [Act.put, List.setIfInBounds_toArray, List.set_cons_zero, List.set_cons_succ, List.getElem_toArray, List.getElem_cons_zero, List.getElem_cons_succ]
      refine wpAnyH_take (i := 13) (v := ?v12) rfl (by kernel_rfl) (by kernel_rfl) (by kernel_rfl) (fun _ _ _ h => h) (Or.inl ⟨by rfl, ?hy12⟩) (by assumption) ?rest12
      case hy12 => (intro w hSw; (try dsimp only at hSw); go_simp; (first | done | with_reducible rfl))
      simp only [Act.put, List.setIfInBounds_toArray, List.set_cons_zero, List.set_cons_succ, List.getElem_toArray, List.getElem_cons_zero, List.getElem_cons_succ]
      refine wpAnyH_ready (rs := [14]) (by kernel_rfl) (by simp) ?_
      refine AllReadyH.cons rfl (fun K hK => ?_) AllReadyH.nil
      simp only [List.getElem_toArray, List.getElem_cons_zero, List.getElem_cons_succ]
      go_simp
      have b3 := (Below.refl W2.heap.size W2).alloc (Nat.le_refl _) (.cells #[.slice vxa (exAt es k).1.length vxc, .slice vya (exAt es k).2.length vyc] 24)
      have D3 := Lib.hid (D2.out.trans (b3.mono D2.out.size))
      have OX3 := Lib.hid (own_below OX2.out b3)
      have OY3 := Lib.hid (own_below OY2.out b3)
      have S3 : (W2.alloc (.cells #[.slice vxa (exAt es k).1.length vxc, .slice vya (exAt es k).2.length vyc] 24)).heap[W2.heap.size]? = some (.cells #[.slice vxa (exAt es k).1.length vxc, .slice vya (exAt es k).2.length vyc] 24 (0, 0)) := (MapKept.heap_alloc W2 _).1
      have hH := And.intro (cell_step b3 hHeld.1) (cell_step b3 hHeld.2)
      clear b3 hHeld OX2 OY2
      refine hK.out _ _ hH (fun hHeld => ?_)
      clear hK K hH
      try simp only [Act.put, List.setIfInBounds_toArray, List.set_cons_zero, List.set_cons_succ, List.getElem_toArray, List.getElem_cons_zero, List.getElem_cons_succ]
      generalize W2.alloc (.cells #[.slice vxa (exAt es k).1.length vxc, .slice vya (exAt es k).2.length vyc] 24) = W3 at *
      generalize W2.heap.size = G at *
      refine wpAnyH_ready (rs := [15]) (by kernel_rfl) (by simp) ?_
      refine AllReadyH.cons rfl (fun K hK => ?_) AllReadyH.nil
      simp only [List.getElem_toArray, List.getElem_cons_zero, List.getElem_cons_succ]
      try simp only [Act.put, List.setIfInBounds_toArray, List.set_cons_zero, List.set_cons_succ]
      have OR := Lib.hid (own_below HX.out.1 D3.out)
      have PR := Lib.hid (HX.out.2.1.later D3.out)
      have hNs := Nat.le_trans hNw D3.out.size
      refine step_list (a := ⟨_, _⟩) (W := W3) (base := N) (v := .slice ra k rc) (u := .slice (some ⟨G, 0, none⟩) 1 1) (n := k) (m := 1) (xs := cells) (ys := [.slice vxa (exAt es k).1.length vxc, .slice vya (exAt es k).2.length vyc]) elemX (by rfl) _ _ (by rfl) (by rfl) (by rfl) OR.out rfl (.inr ⟨_, _, rfl, World.news_of_block S3⟩) ?_ ?_ ?_ hNs ?_
      · simp [Value.oneCell']
      · unfold maxLen; omega
      · omega
      intro v9 W9 o9 g9
      have hx9 := OX3.out.kept g9 (rows_apart OX3.out OR.out (by decide))
      have hy9 := OY3.out.kept g9 (rows_apart OY3.out OR.out (by decide))
      have X9 := Lib.hid (And.intro o9 (And.intro ((PR.out.appended OR.out (by decide) g9).snoc hx9 hy9) (HX.out.2.2.trans (below_appended (D3.out.mono hNw) OR.out g9 (Nat.le_refl N) hNs))))
      have hH : W9.cell? ⟨b, off + k * 2, none⟩ = some (.slice ax (exAt es k).1.length cx) ∧ W9.cell? ⟨b, off + k * 2 + 1, none⟩ = some (.slice ay (exAt es k).2.length cy) := by
        have hB := below_appended (Below.refl N W3) OR.out g9 (Nat.le_refl N) hNs
        exact ⟨(hB.cell (p := ⟨b, off + k * 2, none⟩) hb).trans hHeld.1, (hB.cell (p := ⟨b, off + k * 2 + 1, none⟩) hb).trans hHeld.2⟩
      obtain ⟨a9, c9, rfl⟩ := own_value o9
      clear o9 g9 hx9 hy9 hHeld
      refine hK.out _ _ hH (fun hHeld => ?_)
      clear hK K hH
      try simp only [Act.put, List.setIfInBounds_toArray, List.set_cons_zero, List.set_cons_succ]
      refine wpAnyH_take (i := 16) (v := ?v13) rfl (by kernel_rfl) (by kernel_rfl) (by kernel_rfl) (fun _ _ _ h => h) (Or.inl ⟨by rfl, ?hy13⟩) (by assumption) ?rest13
      case hy13 => (intro w hSw; (try dsimp only at hSw); go_simp; (first | done | with_reducible rfl))
      simp only [Act.put, List.setIfInBounds_toArray, List.set_cons_zero, List.set_cons_succ, List.getElem_toArray, List.getElem_cons_zero, List.getElem_cons_succ]
      refine wpAnyH_done (by kernel_rfl) ?_ _
      go_wp2_with fail
      go_roundw
      case rel => exact ⟨k + 1, _, by omega, by go_num, X9⟩
      case measure => simp [intOf]; omega
    · have hke : k = es.length := by omega
      subst hke
      have i0 : ¬ (es.length : Int) < (es.length : Int) := by omega
      obtain ⟨ra, rc, rfl⟩ := own_value HX.out.1
      go_wp2_with fail
      go_ret
      unfold CopiedX
      rw [hN]
      exact ⟨_, cells, rfl, HX.out.1, HX.out.2.1, HX.out.2.2⟩
end Go.Proofs.YtcnabebcckbfkaaDoor
