/- Layer 10: Pick, the reference's Pick, Same, SameAll. -/
import Derived.Test.YtcnabebcckbfkaaDoorDatS
import Derived.Test.YtcnabebcckbfkaaDoorVecF
namespace Go.Proofs.YtcnabebcckbfkaaDoor
open Go.RowKit
set_option linter.unusedVariables false
theorem PairsO.base {N N' : Nat} {w : World} {cells : List Value} {es : List Ex} {k : Nat} (h : PairsO N w cells es k) (hb : N' ≤ N) : PairsO N' w cells es k :=
  ⟨h.1, fun j hj => by obtain ⟨vx, vy, h1, h2, h3, h4⟩ := h.2 j hj; exact ⟨vx, vy, h1, h2, owns_mono hb h3, owns_mono hb h4⟩⟩
/-- what Pick gives: copies of the examples with the indices -/
def PickedC (es : List Ex) (xs : List Int) (w : World) (e : Ending) (w' : World) : Prop :=
  (okP es xs ∧ ∃ v cells, e = .returned (.tuple #[v, .bool true]) ∧ w'.ownsRow w.heap.size 24 2 v xs.length cells ∧ PairsO w.heap.size w' cells (pickD es xs) xs.length ∧ Below w.heap.size w w') ∨
  (¬ okP es xs ∧ ∃ v, e = .returned (.tuple #[v, .bool false]) ∧ w'.ownsRow w.heap.size 24 2 v 0 [] ∧ Below w.heap.size w w')
theorem CopiedX.out {es : List Ex} {w : World} {e : Ending} {w' : World} (h : CopiedX es w e w') : ∃ v cells, e = .returned v ∧ Hid (w'.ownsRow w.heap.size 24 2 v es.length cells ∧ PairsO w.heap.size w' cells es es.length ∧ Below w.heap.size w w') := by
  obtain ⟨v, cells, h1, h2, h3, h4⟩ := h
  exact ⟨v, cells, h1, Lib.hid ⟨h2, h3, h4⟩⟩
set_option maxHeartbeats 4000000 in
theorem pick_any (lv v : Value) (es : List Ex) (xs : List Int) (hl : es.length ≤ 1000) (hx : xs.length ≤ 1000) (hm : ∀ k, k < es.length → (exAt es k).1.length ≤ 1000000 ∧ (exAt es k).2.length ≤ 1000000) (w : World) (hlv : ExsAt w.heap.size w lv es) (hv : IntsW .i64 w.heap.size w v xs) :
    Calls Tryd.prog 19 #[lv, v] w (PickedC es xs w) := by
  obtain ⟨a, c, rfl⟩ := hv.value
  obtain ⟨la, lc, rfl⟩ := hlv.value
  have bA := (Below.refl w.heap.size w).alloc (Nat.le_refl _) (.cells #[.slice la es.length lc] 26)
  have e0 := cell_new w #[.slice la es.length lc] 26 0
  simp only [List.getElem?_toArray, List.getElem?_cons_zero] at e0
  have HP := eachP_any w.heap.size (.slice la es.length lc) (.slice a xs.length c) es xs hl hx _ e0 (hlv.later bA) (hv.later bA)
  have HPI := Lib.hid HP
  have BA := Lib.hid bA
  have HM := Lib.hid hm
  clear hlv hv bA e0 HP hm
  go_enter Tryd.func19, Tryd.ntmps19
  go_upto_region 1 with fail
  generalize w.alloc (.cells #[.slice la es.length lc] 26) = w1 at *
  have hNw : w.heap.size ≤ w1.heap.size := BA.out.size
  generalize hN : w.heap.size = N at *
  go_wp2_with fail
  refine HPI.out.mono ?_
  rintro e w2 h2
  unfold PickedA at h2
  rcases h2 with ⟨hok, v2, cells, rfl, o2, p2, b2⟩ | ⟨hno, rfl, b2⟩
  · have p2' : PairsA w1.heap.size w2 cells (pickD es xs) (pickD es xs).length := by rw [pickD_length]; exact p2
    have hxs := p2'.exs (v := v2) (N := w1.heap.size)
    clear p2'
    rw [pickD_length] at hxs
    have HX2 := Lib.hid (hxs o2 b2.size)
    have B2 := Lib.hid (BA.out.trans (b2.mono hNw))
    have HOK := Lib.hid hok
    obtain ⟨va, vc, rfl⟩ := own_value o2
    have HC := dataClone_any (.slice va xs.length vc) (pickD es xs) (by rw [pickD_length]; exact hx) (fun k hk => by
      rw [pickD_length] at hk
      rw [pickD_at es xs k hk]
      have := hok k hk
      exact HM.out _ (by omega)) w2 HX2.out
    have HCI := Lib.hid HC
    have hN2 : N ≤ w2.heap.size := by have := b2.size; omega
    clear hxs o2 p2 b2 HC hok HPI HX2
    go_wp2_with fail
    refine HCI.out.mono ?_
    rintro e w3 h3
    obtain ⟨v3, c3, rfl, h4⟩ := h3.out
    clear h3
    rw [pickD_length] at h4
    obtain ⟨va3, vc3, rfl⟩ := own_value h4.out.1
    clear HCI
    go_wp2_with fail
    go_ret2
    unfold PickedC
    rw [hN]
    exact .inl ⟨HOK.out, _, c3, rfl, owns_mono hN2 h4.out.1, h4.out.2.1.base hN2, B2.out.trans (h4.out.2.2.mono hN2)⟩
  · have B2 := Lib.hid (BA.out.trans (b2.mono hNw))
    have HNO := Lib.hid hno
    have HC := dataClone_any (.slice none 0 0) [] (by simp) (fun k hk => absurd hk (Nat.not_lt_zero k)) w2 (.inl ⟨rfl, _, _, rfl⟩)
    have HCI := Lib.hid HC
    have hN2 : N ≤ w2.heap.size := by have := b2.size; omega
    clear b2 HC hno HPI
    go_wp2_with fail
    refine HCI.out.mono ?_
    rintro e w3 h3
    obtain ⟨v3, c3, rfl, h4⟩ := h3.out
    clear h3
    obtain ⟨va3, vc3, rfl⟩ := own_value h4.out.1
    have hc3 : c3 = [] := List.length_eq_zero_iff.1 (by rw [h4.out.2.1.1]; rfl)
    subst hc3
    clear HCI
    go_wp2_with fail
    go_ret2
    unfold PickedC
    rw [hN]
    exact .inr ⟨HNO.out, _, rfl, owns_mono hN2 h4.out.1, B2.out.trans (h4.out.2.2.mono hN2)⟩
set_option maxHeartbeats 4000000 in
theorem refPick_any (lv v : Value) (es : List Ex) (xs : List Int) (hl : es.length ≤ 1000) (hx : xs.length ≤ 1000) (w : World) (hlv : ExsAt w.heap.size w lv es) (hv : IntsW .i64 w.heap.size w v xs) :
    Calls Tryd.prog 20 #[lv, v] w (PickedA es xs w) := by
  obtain ⟨a, c, rfl⟩ := hv.value
  obtain ⟨la, lc, rfl⟩ := hlv.value
  have HV := Lib.hid hv
  have HLV := Lib.hid hlv
  have X0 := Lib.hid (And.intro (World.ownsRow_nil w w.heap.size 24 2) (And.intro (PairsA.nil w.heap.size w (pickD es xs)) (Below.refl w.heap.size w)))
  have HOK0 : Hid (∀ j, j < 0 → 0 ≤ xs[j]?.getD 0 ∧ xs[j]?.getD 0 < (es.length : Int)) := Lib.hid (fun j hj => absurd hj (Nat.not_lt_zero j))
  clear hv hlv
  generalize hN : w.heap.size = N at *
  go_enter Tryd.func20, Tryd.ntmps20
  go_wp2_with fail
  go_loopw [6, 7, 8] (fun rv iv _ wr => ∃ k : Nat, ∃ cells : List Value, k ≤ xs.length ∧ iv = .int .i64 k ∧ Hid (∀ j, j < k → 0 ≤ xs[j]?.getD 0 ∧ xs[j]?.getD 0 < (es.length : Int)) ∧ Hid (wr.ownsRow N 24 2 rv k cells ∧ PairsA N wr cells (pickD es xs) k ∧ Below N w wr)) (fun _ iv _ _ => xs.length - (intOf iv).toNat)
  case atStart => exact ⟨0, [], Nat.zero_le _, rfl, HOK0, X0⟩
  case round =>
    clear X0 HOK0
    obtain ⟨k, cells, hk, rfl, HOK, HX⟩ := hrel
    have hNw : N ≤ wr.heap.size := by have := HX.out.2.2.size; omega
    by_cases hlt : k < xs.length
    · obtain ⟨b, off, rfl, hb, hc⟩ := HV.out.at' k hlt
      have c1 := (HX.out.2.2.cell (p := ⟨b, off + k, none⟩) hb).trans hc
      have i0 : (0 : Int) ≤ (k : Int) := by omega
      have i1 : (k : Int) < (xs.length : Int) := by omega
      obtain ⟨ra, rc, rfl⟩ := own_value HX.out.1
      by_cases hin : 0 ≤ xs[k]?.getD 0 ∧ xs[k]?.getD 0 < (es.length : Int)
      · obtain ⟨i, hi⟩ : ∃ i : Nat, xs[k]?.getD 0 = (i : Int) := ⟨(xs[k]?.getD 0).toNat, by omega⟩
        have hil : i < es.length := by omega
        have HPA := Lib.hid (pickD_at es xs k hlt)
        rw [hi, Int.toNat_natCast] at HPA
        have HOK2 : Hid (∀ j, j < k + 1 → 0 ≤ xs[j]?.getD 0 ∧ xs[j]?.getD 0 < (es.length : Int)) := Lib.hid (fun j hj => by
          rcases Nat.lt_succ_iff_lt_or_eq.1 hj with h | rfl
          · exact HOK.out j h
          · exact hin)
        obtain ⟨b2, off2, e2, hb2, ax, cx, ay, cy, d0, d1, ix, iy⟩ := (HLV.out.below HX.out.2.2).at hil
        cases e2
        rw [hi] at c1
        have HIX := Lib.hid (And.intro ix iy)
        have j0 : (0 : Int) ≤ (i : Int) := by omega
        have j1 : (i : Int) < (es.length : Int) := by omega
        have g1 : decide ((i : Int) < 0) = false := by simp
        have g2 : decide ((es.length : Int) ≤ (i : Int)) = false := by simp; omega
        have OR := Lib.hid HX.out.1
        clear hc hin hi ix iy
        go_wp2_with (at_builtin; refine append_one_lies (g := wr.heap.size) elemX rfl _ _ rfl rfl rfl rfl OR.out rfl ?_ ?_ ?_ ?_ ?_; (simp [Value.oneCell']); (unfold maxLen; omega); omega; (exact hNw); intro b' cap' w9 ho' hg' hat9; have B9 := below_appended (Below.refl N wr) OR.out hg' (Nat.le_refl N) hNw; have X9 := Lib.hid (And.intro ho' (And.intro ((HX.out.2.1.below B9).snoc (by rw [HPA.out]; exact HIX.out.1.below B9) (by rw [HPA.out]; exact HIX.out.2.below B9)) (HX.out.2.2.trans B9))); clear ho' hg' hat9 B9)
        go_roundw
        case rel => exact ⟨k + 1, _, by omega, by go_num, HOK2, X9⟩
        case measure => simp [intOf]; omega
      · have HNO : Hid (¬ okP es xs) := Lib.hid (fun h => hin (h k hlt))
        have hbad : xs[k]?.getD 0 < 0 ∨ (es.length : Int) ≤ xs[k]?.getD 0 := by omega
        clear hc hin
        generalize xs[k]?.getD 0 = x at *
        by_cases hneg : x < 0
        · have g1 : decide (x < 0) = true := by simpa using hneg
          go_wp2_with fail
          go_ret2
          unfold PickedA
          rw [hN]
          exact .inr ⟨HNO.out, rfl, HX.out.2.2⟩
        · have g1 : decide (x < 0) = false := by simpa using hneg
          have g2 : (es.length : Int) ≤ x := by omega
          have g3 : decide ((es.length : Int) ≤ x) = true := by simpa using g2
          go_wp2_with fail
          go_ret2
          unfold PickedA
          rw [hN]
          exact .inr ⟨HNO.out, rfl, HX.out.2.2⟩
    · have hke : k = xs.length := by omega
      subst hke
      have i0 : ¬ (xs.length : Int) < (xs.length : Int) := by omega
      obtain ⟨ra, rc, rfl⟩ := own_value HX.out.1
      go_wp2_with fail
      go_ret2
      unfold PickedA
      rw [hN]
      exact .inl ⟨HOK.out, _, cells, rfl, HX.out.1, HX.out.2.1, HX.out.2.2⟩
end Go.Proofs.YtcnabebcckbfkaaDoor
