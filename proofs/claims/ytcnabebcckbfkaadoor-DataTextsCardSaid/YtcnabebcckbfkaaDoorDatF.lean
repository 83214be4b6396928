/- Layer 10: the reference's Text. -/
import Derived.Test.YtcnabebcckbfkaaDoorDatY
import Derived.Test.YtcnabebcckbfkaaDoorDecV
import Derived.Deep.Cut
import Derived.Deep.RegionHeld3
namespace Go.Proofs.YtcnabebcckbfkaaDoor
open Go.RowKit
set_option linter.unusedVariables false
theorem tail_snoc (r : List (List UInt8)) (y : List UInt8) : Lib.joinTail [32] (r ++ [y]) = Lib.joinTail [32] r ++ 32 :: y := by
  simp [Lib.joinTail]
theorem tail_append (r s : List (List UInt8)) : Lib.joinTail [32] (r ++ s) = Lib.joinTail [32] r ++ Lib.joinTail [32] s := by
  simp [Lib.joinTail]
theorem join_snoc (x : List UInt8) (r : List (List UInt8)) (y : List UInt8) : Lib.join (x :: r ++ [y]) [32] = Lib.join (x :: r) [32] ++ 32 :: y := by
  rw [List.cons_append, Lib.join_cons, Lib.join_cons, tail_snoc, List.append_assoc]
theorem join_append (x : List UInt8) (r : List (List UInt8)) (y : List UInt8) (s : List (List UInt8)) : Lib.join (x :: r ++ y :: s) [32] = Lib.join (x :: r) [32] ++ 32 :: Lib.join (y :: s) [32] := by
  rw [List.cons_append, Lib.join_cons, Lib.join_cons, Lib.join_cons, tail_append, tail_cons, List.append_assoc]
/-- the texts of numbers with spaces between them -/
def jn (xs : List Int) (q : Int) : List UInt8 := Lib.join (xs.map (textB · q)) [32]
theorem jn_nil (q : Int) : jn [] q = [] := rfl
theorem jn_take (xs : List Int) (q : Int) (k : Nat) (h : k < xs.length) : jn (xs.take (k + 1)) q = if k = 0 then textB (xs[k]?.getD 0) q else jn (xs.take k) q ++ 32 :: textB (xs[k]?.getD 0) q := by
  have e : xs.take (k + 1) = xs.take k ++ [xs[k]] := by rw [List.take_add_one, List.getElem?_eq_getElem h]; rfl
  have e0 : xs[k]?.getD 0 = xs[k] := by rw [List.getElem?_eq_getElem h]; rfl
  rw [e0]
  unfold jn
  rw [e, List.map_append]
  by_cases hk : k = 0
  · subst hk
    rw [if_pos rfl]
    simp [Lib.join_one]
  · rw [if_neg hk]
    cases hx : (xs.take k).map (textB · q) with
    | nil =>
      have hl := congrArg List.length hx
      rw [List.length_map, List.length_take, List.length_nil] at hl
      omega
    | cons x r => exact join_snoc x r _
theorem textX_jn {xs ys : List Int} (q : Int) (hx : 0 < xs.length) (hy : 0 < ys.length) : textX xs ys q = jn xs q ++ [32, 62, 32] ++ jn ys q := by
  unfold textX jn
  have e : (wordsB xs ys q).map (·.data.toList) = xs.map (textB · q) ++ [62] :: ys.map (textB · q) := by
    simp [wordsB, strB]
    rfl
  rw [e]
  cases hx' : xs.map (textB · q) with
  | nil => have hl := congrArg List.length hx'; rw [List.length_map, List.length_nil] at hl; omega
  | cons x r =>
    cases hy' : ys.map (textB · q) with
    | nil => have hl := congrArg List.length hy'; rw [List.length_map, List.length_nil] at hl; omega
    | cons y s =>
      rw [join_append, show ([62] : List UInt8) :: y :: s = [62] :: [] ++ y :: s from rfl, join_append, Lib.join_one]
      simp
theorem textB_any_len (x q : Int) (hx : -9223372036854775808 ≤ x ∧ x ≤ 9223372036854775807) : (textB x q).length ≤ 100 := by
  unfold textB
  split
  · rename_i hq
    unfold textL
    have hp := Nat.two_pow_pos q.toNat
    have hd := Nat.div_le_self x.natAbs (2 ^ q.toNat)
    have h := dec_len (x.natAbs / 2 ^ q.toNat) (by omega)
    have h2 := fracL_length q.toNat (x.natAbs % 2 ^ q.toNat)
    rw [List.length_append, List.length_append]
    have a1 : (if x < 0 then ([45] : List UInt8) else []).length ≤ 1 := by split <;> simp
    have a2 : (if x.natAbs % 2 ^ q.toNat = 0 then ([] : List UInt8) else 46 :: (fracL q.toNat (x.natAbs % 2 ^ q.toNat)).map digB).length ≤ 65 := by
      split
      · simp
      · simp; omega
    omega
  · simp
theorem jn_len (xs : List Int) (q : Int) (hx : ∀ z ∈ xs, -9223372036854775808 ≤ z ∧ z ≤ 9223372036854775807) : (jn xs q).length ≤ 101 * xs.length := by
  unfold jn
  cases h : xs.map (textB · q) with
  | nil => simp [Lib.join_nil]
  | cons x r =>
    have hl := congrArg List.length h
    rw [List.length_map, List.length_cons] at hl
    have hw : ∀ w ∈ x :: r, w.length ≤ 100 := by
      intro w hw
      rw [← h] at hw
      obtain ⟨z, hz, rfl⟩ := List.mem_map.1 hw
      exact textB_any_len z q (hx z hz)
    rw [Lib.join_cons, List.length_append]
    have a1 := hw x List.mem_cons_self
    have a2 := tail_len r (fun w m => hw w (List.mem_cons_of_mem _ m))
    omega
set_option maxHeartbeats 2000000 in
theorem refTexts_any (v : Value) (xs : List Int) (q : Int) (hl : xs.length ≤ 1000) (hw : ∀ z ∈ xs, -9223372036854775808 ≤ z ∧ z ≤ 9223372036854775807) (w : World) (hv : IntsW .i64 w.heap.size w v xs) :
    Calls Tryd.prog 31 #[v, .int .i64 q] w fun e w' => e = .returned (.string ⟨(jn xs q).toArray⟩) ∧ Below w.heap.size w w' := by
  obtain ⟨a, c, rfl⟩ := hv.value
  have HV := Lib.hid hv
  have HW := Lib.hid hw
  have X0 := Lib.hid (Below.refl w.heap.size w)
  have hj0 : Hid (jn (xs.take 0) q = []) := Lib.hid rfl
  clear hv hw
  generalize hN : w.heap.size = N at *
  go_enter Tryd.func31, Tryd.ntmps31
  go_wp2_with fail
  go_loopw [5, 6] (fun sv iv wr => ∃ k : Nat, k ≤ xs.length ∧ iv = .int .i64 k ∧ sv = .string ⟨(jn (xs.take k) q).toArray⟩ ∧ Hid (Below N w wr)) (fun _ iv _ => xs.length - (intOf iv).toNat)
  case atStart => exact ⟨0, Nat.zero_le _, rfl, by rw [hj0.out], X0⟩
  case round =>
    clear X0 hj0
    obtain ⟨k, hk, rfl, rfl, HB⟩ := hrel
    have hNw : N ≤ wr.heap.size := by have := HB.out.size; omega
    by_cases hlt : k < xs.length
    · obtain ⟨b, off, rfl, hb, hc⟩ := HV.out.at' k hlt
      have c1 := (HB.out.cell (p := ⟨b, off + k, none⟩) hb).trans hc
      have hx := HW.out (xs[k]?.getD 0) (by rw [List.getElem?_eq_getElem hlt]; exact List.getElem_mem _)
      have HT := Lib.hid (jn_take xs q k hlt)
      have i0 : (0 : Int) ≤ (k : Int) := by omega
      have i1 : (k : Int) < (xs.length : Int) := by omega
      have jl := jn_len (xs.take k) q (fun z hz => HW.out z (List.mem_of_mem_take hz))
      rw [List.length_take] at jl
      have tl := textB_any_len (xs[k]?.getD 0) q hx
      have HR := Lib.hid (fun W => refText_any (xs[k]?.getD 0) q hx.1 hx.2 W)
      clear hc hx
      generalize xs[k]?.getD 0 = x at *
      generalize textB x q = tx at *
      generalize hJ : jn (xs.take k) q = J at *
      have k1 : ¬ 9223372036854775807 < J.length + 1 := by omega
      have k2 : ¬ 9223372036854775807 < J.length + tx.length := by omega
      have k3 : ¬ 9223372036854775807 < (J ++ [32]).length + tx.length := by simp; omega
      by_cases hk0 : k = 0
      · subst hk0
        rw [if_pos rfl] at HT
        have hJ0 : J = [] := by rw [← hJ]; rfl
        subst hJ0
        rw [Nat.add_zero] at c1
        go_wp2_with fail
        refine (HR.out _).mono ?_
        rintro e w2 ⟨rfl, b2⟩
        have B2 := Lib.hid (HB.out.trans (b2.mono hNw))
        clear b2 HB c1
        go_wp2_with fail
        go_roundw
        case rel => exact ⟨1, by omega, by go_num, by rw [HT.out]; first | rfl | (simp; done), B2⟩
        case measure => simp [intOf]; omega
      · have g1 : (0 : Int) < (k : Int) := by omega
        rw [if_neg hk0] at HT
        go_wp2_with fail
        refine (HR.out _).mono ?_
        rintro e w2 ⟨rfl, b2⟩
        have B2 := Lib.hid (HB.out.trans (b2.mono hNw))
        clear b2 HB c1
        go_wp2_with fail
        go_roundw
        case rel => exact ⟨k + 1, by omega, by go_num, by rw [HT.out, show J ++ 32 :: tx = J ++ [32] ++ tx by simp, ← bytes_append, ← bytes_append], B2⟩
        case measure => simp [intOf]; omega
    · have hke : k = xs.length := by omega
      subst hke
      have i0 : ¬ (xs.length : Int) < (xs.length : Int) := by omega
      rw [List.take_length]
      go_wp2_with fail
      go_ret
      exact ⟨rfl, by first | exact HB.out | (rw [hN]; exact HB.out)⟩
/-- has an example a text, and which -/
def okQ (xs ys : List Int) (q : Int) : Bool := inQ q && okT xs ys
def textQ (xs ys : List Int) (q : Int) : List UInt8 := if okQ xs ys q = true then textX xs ys q else []
set_option maxHeartbeats 2000000 in
theorem refText10_any (vx vy : Value) (xs ys : List Int) (q : Int) (hlx : xs.length ≤ 1000) (hly : ys.length ≤ 1000)
    (hwx : ∀ z ∈ xs, -9223372036854775808 ≤ z ∧ z ≤ 9223372036854775807) (hwy : ∀ z ∈ ys, -9223372036854775808 ≤ z ∧ z ≤ 9223372036854775807)
    (w : World) (hvx : IntsW .i64 w.heap.size w vx xs) (hvy : IntsW .i64 w.heap.size w vy ys) :
    Calls Tryd.prog 12 #[.agg #[vx, vy], .int .i64 q] w fun e w' => e = .returned (.tuple #[.string ⟨(textQ xs ys q).toArray⟩, .bool (okQ xs ys q)]) ∧ Below w.heap.size w w' := by
  obtain ⟨a, c, rfl⟩ := hvx.value
  obtain ⟨a2, c2, rfl⟩ := hvy.value
  have b1 := (Below.refl w.heap.size w).alloc (Nat.le_refl _) (.cells #[.slice a xs.length c, .slice a2 ys.length c2] 24)
  have T0 := Two.new w 24 (.slice a xs.length c) (.slice a2 ys.length c2)
  obtain ⟨c0, c1⟩ := T0.cells
  have B1 := Lib.hid b1
  have HVX := Lib.hid hvx
  have HVY := Lib.hid hvy
  clear T0 b1 hvx hvy
  by_cases hok : okQ xs ys q = true
  · have e2 : textQ xs ys q = textX xs ys q := by unfold textQ; rw [if_pos hok]
    have hq : inQ q = true := by unfold okQ at hok; simp only [Bool.and_eq_true] at hok; exact hok.1
    have hq2 : 0 ≤ q ∧ q ≤ 62 := by unfold inQ at hq; simpa using hq
    have hl : 0 < xs.length ∧ 0 < ys.length := by
      unfold okQ okT at hok
      simp only [Bool.and_eq_true, decide_eq_true_eq] at hok
      exact hok.2
    have HT := Lib.hid (textX_jn q hl.1 hl.2)
    rw [hok, e2]
    have HX := Lib.hid (fun W hW => refTexts_any (.slice a xs.length c) xs q hlx hwx W hW)
    have HY := Lib.hid (fun W hW => refTexts_any (.slice a2 ys.length c2) ys q hly hwy W hW)
    have j1 := jn_len xs q hwx
    have j2 := jn_len ys q hwy
    have g1 : decide (q < 0) = false := by simp; omega
    have g2 : decide (62 < q) = false := by simp; omega
    have g3 : ((xs.length : Int) == 0) = false := by simp; intro h; rw [h] at hl; simp at hl
    have g4 : ((ys.length : Int) == 0) = false := by simp; intro h; rw [h] at hl; simp at hl
    have g5 : ¬ (xs.length : Int) = 0 := by omega
    have g6 : ¬ (ys.length : Int) = 0 := by omega
    have g7 : ¬ q < 0 := by omega
    have g8 : ¬ 62 < q := by omega
    clear hok e2 hq hwx hwy hl
    go_enter Tryd.func12, Tryd.ntmps12
    go_upto_region 1 with fail
    generalize w.alloc (.cells #[.slice a xs.length c, .slice a2 ys.length c2] 24) = w1 at *
    generalize hN : w.heap.size = N at *
    have n1 : N ≤ w1.heap.size := by have := B1.out.size; omega
    generalize jn xs q = J at *
    generalize jn ys q = K' at *
    have k1 : ¬ 9223372036854775807 < J.length + 3 := by omega
    have k2 : ¬ 9223372036854775807 < (J ++ [32, 62, 32]).length + K'.length := by simp; omega
    have k3 : ¬ 9223372036854775807 < J.length + 3 + K'.length := by omega
    go_upto_region 3 with fail
    refine wp_region_held_drew (S := fun w' => w'.cell? ⟨N, 0, none⟩ = some (.slice a xs.length c) ∧ w'.cell? ⟨N, 1, none⟩ = some (.slice a2 ys.length c2) ∧ Below w1.heap.size w1 w') (by kernel_rfl) ?_ (fun hHeld => ?_)
    · exact ⟨c0, c1, (Below.refl _ _).drew⟩
    clear c0 c1
    refine wpAnyH_take (i := 0) (v := ?v1) rfl (by kernel_rfl) (by kernel_rfl) (by kernel_rfl) (fun _ _ _ h => h) (Or.inl ⟨by rfl, ?hy1⟩) (by assumption) ?rest1
    case hy1 => (intro w hSw; (try dsimp only at hSw); go_simp; (first | done | with_reducible rfl))
    simp only [Act.put, List.setIfInBounds_toArray, List.set_cons_zero, List.set_cons_succ, List.getElem_toArray, List.getElem_cons_zero]
    refine wpAnyH_take (i := 1) (v := ?v2) rfl (by kernel_rfl) (by kernel_rfl) (by kernel_rfl) (fun _ _ _ h => h) (Or.inl ⟨by rfl, ?hy2⟩) (by assumption) ?rest2
    case hy2 => (intro w hSw; (try dsimp only at hSw); go_simp; (first | done | with_reducible rfl))
    simp only [Act.put, List.setIfInBounds_toArray, List.set_cons_zero, List.set_cons_succ, List.getElem_toArray, List.getElem_cons_zero, List.getElem_cons_succ]
    refine wpAnyH_take (i := 2) (v := ?v3) rfl (by kernel_rfl) (by kernel_rfl) (by kernel_rfl) (fun _ _ _ h => h) (Or.inl ⟨by rfl, ?hy3⟩) (by assumption) ?rest3
    case hy3 => (intro w hSw; (try dsimp only at hSw); go_simp; (first | done | with_reducible rfl))
    simp only [Act.put, List.setIfInBounds_toArray, List.set_cons_zero, List.set_cons_succ, List.getElem_toArray, List.getElem_cons_zero, List.getElem_cons_succ]
    refine wpAnyH_take (i := 5) (v := ?v4) rfl (by kernel_rfl) (by kernel_rfl) (by kernel_rfl) (fun _ _ _ h => h) (Or.inl ⟨by rfl, ?hy4⟩) (by assumption) ?rest4
    case hy4 => (intro w hSw; (try dsimp only at hSw); go_simp; (first | done | with_reducible rfl))
    simp only [Act.put, List.setIfInBounds_toArray, List.set_cons_zero, List.set_cons_succ, List.getElem_toArray, List.getElem_cons_zero, List.getElem_cons_succ]
    refine wpAnyH_take (i := 6) (v := ?v5) rfl (by kernel_rfl) (by kernel_rfl) (by kernel_rfl) (fun _ _ _ h => h) (Or.inl ⟨by rfl, ?hy5⟩) (by assumption) ?rest5
    case hy5 => (intro w hSw; (try dsimp only at hSw); go_simp; (first | done | with_reducible rfl))
    simp only [Act.put, List.setIfInBounds_toArray, List.set_cons_zero, List.set_cons_succ, List.getElem_toArray, List.getElem_cons_zero, List.getElem_cons_succ]
    refine wpAnyH_take (i := 7) (v := ?v6) rfl (by kernel_rfl) (by kernel_rfl) (by kernel_rfl) (fun _ _ _ h => h) (Or.inl ⟨by rfl, ?hy6⟩) (by assumption) ?rest6
    case hy6 => (intro w hSw; (try dsimp only at hSw); go_simp; (first | done | with_reducible rfl))
    simp only [Act.put, List.setIfInBounds_toArray, List.set_cons_zero, List.set_cons_succ, List.getElem_toArray, List.getElem_cons_zero, List.getElem_cons_succ]
    refine wpAnyH_ready (rs := [3]) (by kernel_rfl) (by simp) ?_
    refine AllReadyH.cons rfl (fun K hK => ?_) AllReadyH.nil
    simp only [List.getElem_toArray, List.getElem_cons_zero, List.getElem_cons_succ]
    go_simp
    go_at_call 31
    obtain ⟨h_0, h_1, h_B⟩ := hHeld
    refine (HX.out _ ((HVX.out.below (B1.out.trans (h_B.mono n1))).grow (Nat.le_trans n1 h_B.size))).mono ?_
    rintro e w_k1' ⟨rfl, k1'⟩
    have hb1 := Lib.hid (below_step h_B k1')
    go_wp2_with fail
    refine hK.out _ _ ⟨cell_step k1' h_0, cell_step k1' h_1, below_step h_B k1'⟩ (fun hHeld => ?_)
    clear hK K h_0 h_1 h_B
    try simp only [Act.put, List.setIfInBounds_toArray, List.set_cons_zero, List.set_cons_succ, List.getElem_toArray, List.getElem_cons_zero, List.getElem_cons_succ]
    refine wpAnyH_take (i := 4) (v := ?v7) rfl (by kernel_rfl) (by kernel_rfl) (by kernel_rfl) (fun _ _ _ h => h) (Or.inl ⟨by rfl, ?hy7⟩) (by assumption) ?rest7
    case hy7 => (intro w hSw; (try dsimp only at hSw); go_simp; (first | done | with_reducible rfl))
    simp only [Act.put, List.setIfInBounds_toArray, List.set_cons_zero, List.set_cons_succ, List.getElem_toArray, List.getElem_cons_zero, List.getElem_cons_succ]
    refine wpAnyH_ready (rs := [8]) (by kernel_rfl) (by simp) ?_
    refine AllReadyH.cons rfl (fun K hK => ?_) AllReadyH.nil
    simp only [List.getElem_toArray, List.getElem_cons_zero, List.getElem_cons_succ]
    go_simp
    go_at_call 31
    obtain ⟨h_0, h_1, h_B⟩ := hHeld
    refine (HY.out _ ((HVY.out.below (B1.out.trans (h_B.mono n1))).grow (Nat.le_trans n1 h_B.size))).mono ?_
    rintro e w_k2' ⟨rfl, k2'⟩
    have hb2 := Lib.hid (below_step h_B k2')
    go_wp2_with fail
    refine hK.out _ _ ⟨cell_step k2' h_0, cell_step k2' h_1, below_step h_B k2'⟩ (fun hHeld => ?_)
    clear hK K h_0 h_1 h_B
    try simp only [Act.put, List.setIfInBounds_toArray, List.set_cons_zero, List.set_cons_succ, List.getElem_toArray, List.getElem_cons_zero, List.getElem_cons_succ]
    refine wpAnyH_take (i := 9) (v := ?v8) rfl (by kernel_rfl) (by kernel_rfl) (by kernel_rfl) (fun _ _ _ h => h) (Or.inl ⟨by rfl, ?hy8⟩) (by assumption) ?rest8
    case hy8 => (intro w hSw; (try dsimp only at hSw); go_simp; (first | done | with_reducible rfl))
    simp only [Act.put, List.setIfInBounds_toArray, List.set_cons_zero, List.set_cons_succ, List.getElem_toArray, List.getElem_cons_zero, List.getElem_cons_succ]
    refine wpAnyH_take (i := 10) (v := ?v9) rfl (by kernel_rfl) (by kernel_rfl) (by kernel_rfl) (fun _ _ _ h => h) (Or.inl ⟨by rfl, ?hy9⟩) (by assumption) ?rest9
    case hy9 => (intro w hSw; (try dsimp only at hSw); go_simp; (first | done | with_reducible rfl))
    simp only [Act.put, List.setIfInBounds_toArray, List.set_cons_zero, List.set_cons_succ, List.getElem_toArray, List.getElem_cons_zero, List.getElem_cons_succ]
    refine wpAnyH_take (i := 11) (v := ?v10) rfl (by kernel_rfl) (by kernel_rfl) (by kernel_rfl) (fun _ _ _ h => h) (Or.inl ⟨by rfl, ?hy10⟩) (by assumption) ?rest10
    case hy10 => (intro w hSw; (try dsimp only at hSw); go_simp; (first | done | with_reducible rfl))
    simp only [Act.put, List.setIfInBounds_toArray, List.set_cons_zero, List.set_cons_succ, List.getElem_toArray, List.getElem_cons_zero, List.getElem_cons_succ]
    refine wpAnyH_done (by kernel_rfl) ?_ _
    obtain ⟨_, _, h_B⟩ := hHeld
    have B2 := B1.out.trans (h_B.mono n1)
    clear h_B hb1 hb2 B1
    go_wp2_with fail
    go_ret2
    exact ⟨by rw [HT.out]; first | rfl | (simp [← bytes_append]; done), by first | exact B2 | (rw [hN]; exact B2)⟩
  · have hok2 : okQ xs ys q = false := by simpa using hok
    have e2 : textQ xs ys q = [] := by unfold textQ; rw [hok2]; rfl
    rw [hok2, e2]
    have hbad : q < 0 ∨ 62 < q ∨ xs.length = 0 ∨ ys.length = 0 := by
      refine Classical.byContradiction fun h => hok ?_
      unfold okQ okT inQ
      rw [decide_eq_true (by omega : 0 ≤ q ∧ q ≤ 62), decide_eq_true (by omega : 0 < xs.length), decide_eq_true (by omega : 0 < ys.length)]
      rfl
    clear hok hok2 e2 HVX HVY hwx hwy
    by_cases h1 : q < 0
    · have g1 : decide (q < 0) = true := by simpa using h1
      go_enter Tryd.func12, Tryd.ntmps12
      go_upto_region 1 with fail
      generalize w.alloc (.cells #[.slice a xs.length c, .slice a2 ys.length c2] 24) = w1 at *
      generalize hN : w.heap.size = N at *
      generalize xs.length = lx at *
      generalize ys.length = ly at *
      go_wp2_with fail
      go_ret2
      exact ⟨rfl, by first | exact B1.out | (rw [hN]; exact B1.out)⟩
    · have g1 : decide (q < 0) = false := by simpa using h1
      by_cases h2 : 62 < q
      · have g2 : decide (62 < q) = true := by simpa using h2
        go_enter Tryd.func12, Tryd.ntmps12
        go_upto_region 1 with fail
        generalize w.alloc (.cells #[.slice a xs.length c, .slice a2 ys.length c2] 24) = w1 at *
        generalize hN : w.heap.size = N at *
        generalize xs.length = lx at *
        generalize ys.length = ly at *
        go_wp2_with fail
        go_ret2
        exact ⟨rfl, by first | exact B1.out | (rw [hN]; exact B1.out)⟩
      · have g2 : decide (62 < q) = false := by simpa using h2
        go_enter Tryd.func12, Tryd.ntmps12
        go_upto_region 1 with fail
        generalize w.alloc (.cells #[.slice a xs.length c, .slice a2 ys.length c2] 24) = w1 at *
        generalize hN : w.heap.size = N at *
        generalize xs.length = lx at *
        generalize ys.length = ly at *
        by_cases h3 : lx = 0
        · subst h3
          go_wp2_with fail
          go_ret2
          exact ⟨rfl, by first | exact B1.out | (rw [hN]; exact B1.out)⟩
        · have h4 : ly = 0 := by omega
          subst h4
          have g3 : ((lx : Int) == 0) = false := by simpa using h3
          have g5 : ¬ (lx : Int) = 0 := by omega
          go_wp2_with fail
          go_ret2
          exact ⟨rfl, by first | exact B1.out | (rw [hN]; exact B1.out)⟩
end Go.Proofs.YtcnabebcckbfkaaDoor
