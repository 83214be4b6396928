/- Layer 10: Text for every shift. -/
import Derived.Test.YtcnabebcckbfkaaDoorDatF
namespace Go.Proofs.YtcnabebcckbfkaaDoor
open Go.RowKit
set_option linter.unusedVariables false
theorem write_out (E : Nat) (x q : Int) (hx : -9223372036854775808 ≤ x ∧ x ≤ 9223372036854775807) (hq : ¬ (0 ≤ q ∧ q ≤ 62)) (w : World) (ht : Pow10 w) (hE : w.cell? ⟨E, 0, none⟩ = some (.int .i64 q)) :
    Calls Tryd.prog 26 #[.int .i64 x, .pointer (some ⟨E, 0, none⟩)] w fun e w' => e = .returned (.tuple #[.string ⟨#[]⟩, .bool false]) ∧ Below w.heap.size w w' := by
  have H := Lib.hid (text_any x q hx.1 hx.2 w ht)
  rw [show textB x q = [] by unfold textB; rw [if_neg hq]] at H
  clear ht
  go_enter Tryd.func26, Tryd.ntmps26
  go_wp2_with fail
  refine H.out.mono ?_
  rintro e w1 ⟨rfl, b1⟩
  go_wp2_with fail
  go_ret2
  exact ⟨by first | rfl | (simp; done), b1⟩
set_option maxHeartbeats 2000000 in
theorem eachW_out (v : Value) (xs : List Int) (E : Nat) (q : Int) (hl : xs.length ≤ 1000000) (hw : ∀ z ∈ xs, -9223372036854775808 ≤ z ∧ z ≤ 9223372036854775807) (hq : ¬ (0 ≤ q ∧ q ≤ 62)) (w : World) (ht : Pow10 w) (hE : w.cell? ⟨E, 0, none⟩ = some (.int .i64 q)) (hv : IntsW .i64 w.heap.size w v xs) :
    Calls Tryd.prog 28 #[v, .func (.func 26) #[] #[.pointer (some ⟨E, 0, none⟩)]] w fun e w' => e = .returned (.tuple #[.slice none 0 0, .bool (decide (xs.length = 0))]) ∧ Below w.heap.size w w' := by
  obtain ⟨a, c, rfl⟩ := hv.value
  have HV := Lib.hid hv
  have B0 := Lib.hid (Below.refl w.heap.size w)
  by_cases h0 : xs.length = 0
  · rw [decide_eq_true h0]
    have g0 : ¬ (0 : Int) < (xs.length : Int) := by omega
    clear HV hv hw ht hE
    generalize xs.length = l at *
    subst h0
    go_enter Tryd.func28, Tryd.ntmps28
    go_wp2_with fail
    go_loopw [6, 8, 9, 10, 13] (fun rv _ _ _ iv wr => iv = .int .i64 0 ∧ rv = .slice none 0 0 ∧ wr = w) (fun _ _ _ _ _ _ => 0)
    case atStart => exact ⟨rfl, rfl, rfl⟩
    case round =>
      obtain ⟨rfl, rfl, rfl⟩ := hrel
      go_wp2_with fail
      go_ret2
      exact ⟨rfl, B0.out⟩
  · rw [decide_eq_false h0]
    have hlt : 0 < xs.length := by omega
    obtain ⟨b, off, rfl, hb, hc⟩ := HV.out.at' 0 hlt
    have hx := hw (xs[0]?.getD 0) (by rw [List.getElem?_eq_getElem hlt]; exact List.getElem_mem _)
    have H1 := Lib.hid (write_out E (xs[0]?.getD 0) q hx hq w ht hE)
    rw [Nat.add_zero] at hc
    have i1 : (0 : Int) < (xs.length : Int) := by omega
    clear HV hv hw ht hE hx
    generalize xs[0]?.getD 0 = x at *
    go_enter Tryd.func28, Tryd.ntmps28
    go_wp2_with fail
    go_loopw [6, 8, 9, 10, 13] (fun rv _ _ _ iv wr => iv = .int .i64 0 ∧ rv = .slice none 0 0 ∧ wr = w) (fun _ _ _ _ _ _ => 0)
    case atStart => exact ⟨rfl, rfl, rfl⟩
    case round =>
      obtain ⟨rfl, rfl, rfl⟩ := hrel
      go_wp2_with fail
      refine H1.out.mono ?_
      rintro e w2 ⟨rfl, b2⟩
      go_wp2_with fail
      go_ret2
      exact ⟨rfl, b2⟩
set_option maxHeartbeats 4000000 in
theorem textQ_any (vx vy : Value) (xs ys : List Int) (q : Int) (hlx : xs.length ≤ 1000) (hly : ys.length ≤ 1000)
    (hwx : ∀ z ∈ xs, -9223372036854775808 ≤ z ∧ z ≤ 9223372036854775807) (hwy : ∀ z ∈ ys, -9223372036854775808 ≤ z ∧ z ≤ 9223372036854775807)
    (w : World) (ht : Pow10 w) (hvx : IntsW .i64 w.heap.size w vx xs) (hvy : IntsW .i64 w.heap.size w vy ys) :
    Calls Tryd.prog 11 #[.agg #[vx, vy], .int .i64 q] w fun e w' => e = .returned (.tuple #[.string ⟨(textQ xs ys q).toArray⟩, .bool (okQ xs ys q)]) ∧ Below w.heap.size w w' := by
  by_cases hok : okQ xs ys q = true
  · have e2 : textQ xs ys q = textX xs ys q := by unfold textQ; rw [if_pos hok]
    have hq : inQ q = true := by unfold okQ at hok; simp only [Bool.and_eq_true] at hok; exact hok.1
    have hq2 : 0 ≤ q ∧ q ≤ 62 := by unfold inQ at hq; simpa using hq
    have hl : 0 < xs.length ∧ 0 < ys.length := by
      unfold okQ okT at hok
      simp only [Bool.and_eq_true, decide_eq_true_eq] at hok
      exact hok.2
    rw [hok, e2]
    refine textX_any vx vy xs ys q hl.1 hl.2 hlx hly hwx hwy hq2 ?_ w ht hvx hvy
    rw [textX_jn q hl.1 hl.2]
    have j1 := jn_len xs q hwx
    have j2 := jn_len ys q hwy
    simp only [List.length_append, List.length_cons, List.length_nil]
    omega
  have hok2 : okQ xs ys q = false := by simpa using hok
  have e2 : textQ xs ys q = [] := by unfold textQ; rw [hok2]; rfl
  rw [hok2, e2]
  obtain ⟨a, c, rfl⟩ := hvx.value
  obtain ⟨a2, c2, rfl⟩ := hvy.value
  have HVX := Lib.hid hvx
  have HVY := Lib.hid hvy
  have HT := Lib.hid ht
  have b0 := (Below.refl w.heap.size w).alloc (Nat.le_refl _) (.cells #[.slice a xs.length c, .slice a2 ys.length c2] 24)
  have x0 := cell_new w #[.slice a xs.length c, .slice a2 ys.length c2] 24 0
  have x1 := cell_new w #[.slice a xs.length c, .slice a2 ys.length c2] 24 1
  simp only [List.getElem?_toArray, List.getElem?_cons_zero, List.getElem?_cons_succ] at x0 x1
  have b1 := (Below.refl (w.alloc (.cells #[.slice a xs.length c, .slice a2 ys.length c2] 24)).heap.size _).alloc (Nat.le_refl _) (.cells #[.int .i64 q] 3)
  have q0 := cell_new (w.alloc (.cells #[.slice a xs.length c, .slice a2 ys.length c2] 24)) #[.int .i64 q] 3 0
  simp only [List.getElem?_toArray, List.getElem?_cons_zero] at q0
  rw [World.size_alloc] at q0
  have c0 := cell_step b1 x0
  have c1 := cell_step b1 x1
  have B1 := Lib.hid (below_step b0 b1)
  have HC := Lib.hid (And.intro c0 (And.intro c1 q0))
  clear b0 b1 x0 x1 q0 c0 c1 hvx hvy ht
  go_enter Tryd.func11, Tryd.ntmps11
  go_upto_region 2 with fail
  generalize (w.alloc (.cells #[.slice a xs.length c, .slice a2 ys.length c2] 24)).alloc (.cells #[.int .i64 q] 3) = w1 at *
  generalize hN : w.heap.size = N at *
  have hNs : N ≤ w1.heap.size := by rw [← hN]; exact (show Below w.heap.size w w1 by rw [hN]; exact B1.out).size
  by_cases hq2 : 0 ≤ q ∧ q ≤ 62
  · have hok : ¬ (0 < xs.length ∧ 0 < ys.length) := fun h => hok (by
      unfold okQ okT inQ
      rw [decide_eq_true hq2, decide_eq_true h.1, decide_eq_true h.2]
      rfl)
    obtain ⟨c0, c1, q0⟩ := HC.out
    have H2 := Lib.hid (eachW_any _ xs (N + 1) q (by omega) hwx hq2 w1 (HT.out.later (by rw [hN]; exact B1.out)) q0 ((HVX.out.below B1.out).grow hNs))
    go_wp2_with fail
    refine H2.out.mono ?_
    rintro e w2 ⟨⟨u, rfl, o2⟩, b2⟩
    have O2 := Lib.hid o2
    have HC2 := Lib.hid (And.intro (cell_step b2 c0) (And.intro (cell_step b2 c1) (cell_step b2 q0)))
    have B2 := Lib.hid (B1.out.trans (b2.mono hNs))
    have hNs2 : N ≤ w2.heap.size := by have := b2.size; omega
    clear H2 o2 b2 HC c0 c1 q0 B1
    obtain ⟨ua, uc, rfl⟩ := own_value O2.out
    obtain ⟨c0, c1, q0⟩ := HC2.out
    have H3 := Lib.hid (eachW_any _ ys (N + 1) q (by omega) hwy hq2 w2 (HT.out.later (by rw [hN]; exact B2.out)) q0 ((HVY.out.below B2.out).grow hNs2))
    go_wp2_with fail
    refine H3.out.mono ?_
    rintro e w3 ⟨⟨u3, rfl, o3⟩, b3⟩
    have B3 := B2.out.trans (b3.mono hNs2)
    obtain ⟨ua3, uc3, rfl⟩ := own_value o3
    clear H3 o3 b3 HC2 c0 c1 q0 B2 O2 HVX HVY HT hwx hwy
    generalize xs.length = lx at *
    generalize ys.length = ly at *
    by_cases hz : lx = 0
    · subst hz
      go_wp2_with fail
      go_ret2
      exact ⟨rfl, by first | exact B3 | (rw [hN]; exact B3)⟩
    · have hz2 : ly = 0 := by omega
      subst hz2
      have g1 : ((lx : Int) == 0) = false := by simpa using hz
      have g3 : ¬ (lx : Int) = 0 := by omega
      go_wp2_with fail
      go_ret2
      exact ⟨rfl, by first | exact B3 | (rw [hN]; exact B3)⟩
  · obtain ⟨c0, c1, q0⟩ := HC.out
    have H2 := Lib.hid (eachW_out _ xs (N + 1) q (by omega) hwx hq2 w1 (HT.out.later (by rw [hN]; exact B1.out)) q0 ((HVX.out.below B1.out).grow hNs))
    go_wp2_with fail
    refine H2.out.mono ?_
    rintro e w2 ⟨rfl, b2⟩
    have HC2 := Lib.hid (And.intro (cell_step b2 c0) (And.intro (cell_step b2 c1) (cell_step b2 q0)))
    have B2 := Lib.hid (B1.out.trans (b2.mono hNs))
    have hNs2 : N ≤ w2.heap.size := by have := b2.size; omega
    clear H2 b2 HC c0 c1 q0 B1
    obtain ⟨c0, c1, q0⟩ := HC2.out
    have H3 := Lib.hid (eachW_out _ ys (N + 1) q (by omega) hwy hq2 w2 (HT.out.later (by rw [hN]; exact B2.out)) q0 ((HVY.out.below B2.out).grow hNs2))
    go_wp2_with fail
    refine H3.out.mono ?_
    rintro e w3 ⟨rfl, b3⟩
    have B3 := B2.out.trans (b3.mono hNs2)
    clear H3 b3 HC2 c0 c1 q0 B2 HVX HVY HT hwx hwy
    go_wp2_with fail
    all_goals (go_ret2; exact ⟨rfl, by first | exact B3 | (rw [hN]; exact B3)⟩)
end Go.Proofs.YtcnabebcckbfkaaDoor
