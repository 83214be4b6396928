/- Layer 10: DataTexts. -/
import Derived.Test.YtcnabebcckbfkaaDoorDatL
import Derived.Test.YtcnabebcckbfkaaDoorDatZ
import Derived.Deep.Cut
namespace Go.Proofs.YtcnabebcckbfkaaDoor
open Go.RowKit
set_option linter.unusedVariables false
/-- one example in a new block -/
theorem exs_one {w : World} {v1 v2 : Value} {x1 y1 : List Int} (h1 : IntsW .i64 w.heap.size w v1 x1) (h2 : IntsW .i64 w.heap.size w v2 y1) (e : TypeId) :
    ExsAt (w.alloc (.cells #[v1, v2] e)).heap.size (w.alloc (.cells #[v1, v2] e)) (.slice (some ⟨w.heap.size, 0, none⟩) 1 1) [(x1, y1)] := by
  have b := (Below.refl w.heap.size w).alloc (Nat.le_refl _) (.cells #[v1, v2] e)
  have c := fun j => cell_new w #[v1, v2] e j
  refine .inr ⟨w.heap.size, 0, 1, rfl, Nat.le_refl _, by rw [World.size_alloc]; omega, fun j hj => ?_⟩
  match j, hj with
  | 0, _ => exact ⟨v1, v2, c 0, c 1, h1.later b, h2.later b⟩
/-- what Parse finds in an example's text -/
theorem parse_back {xs ys xs' ys' : List Int} {q : Int} {ok : Bool} (hx : rng xs) (hy : rng ys) (h : PExIs ⟨(textQ xs ys q).toArray⟩ q xs' ys' ok) : ok = okQ xs ys q ∧ (okQ xs ys q = true → xs' = xs ∧ ys' = ys) := by
  by_cases hok : okQ xs ys q = true
  · have e2 : textQ xs ys q = textX xs ys q := by unfold textQ; rw [if_pos hok]
    rw [e2] at h
    have hq := (okQ_parts hok).1
    rcases h.2 with ⟨h1, h2, h3⟩ | ⟨h1, _, _, h3⟩
    · refine ⟨by rw [h1, hok], fun _ => ?_⟩
      have e := bytes_inj2 h3
      have hw : exWords xs' ys' q = exWords xs ys q := by
        have n1 := exWords_no32 xs ys hq
        rw [textX_words xs ys] at e
        generalize exWords xs ys q = l at *
        cases l with
        | nil =>
          rw [show Lib.join ([] : List (List UInt8)) [32] = [] from rfl] at e
          have := congrArg List.length (congrArg (fun l => l) e)
          rw [textX_jn q (okQ_parts h2).2.1 (okQ_parts h2).2.2] at this
          simp at this
        | cons y r =>
          rw [Lib.join_cons] at e
          exact words_of_text hq n1 e
      exact exWords_inj hq hw
    · exact absurd rfl (h3 xs ys hx hy hok)
  · have hok2 : okQ xs ys q = false := by simpa using hok
    have e2 : textQ xs ys q = [] := by unfold textQ; rw [hok2]; rfl
    rw [e2] at h
    refine ⟨?_, fun h => absurd h hok⟩
    rcases h.2 with ⟨h1, h2, h3⟩ | ⟨h1, _⟩
    · have e := bytes_inj2 h3
      have := congrArg List.length e
      rw [textX_jn q (okQ_parts h2).2.1 (okQ_parts h2).2.2] at this
      simp at this
    · rw [h1, hok2]
theorem textQ_len {xs ys : List Int} (q : Int) (hx : rng xs) (hy : rng ys) (h1 : xs.length ≤ 600) (h2 : ys.length ≤ 600) : (textQ xs ys q).length ≤ 200000 := by
  unfold textQ
  split
  · rename_i hok
    rw [textX_jn q (okQ_parts hok).2.1 (okQ_parts hok).2.2]
    have j1 := jn_len xs q hx
    have j2 := jn_len ys q hy
    simp only [List.length_append, List.length_cons, List.length_nil]
    omega
  · simp
/-- the words of an example's text are few -/
theorem textQ_words (xs ys : List Int) (q : Int) (hx : rng xs) (hy : rng ys) (h1 : xs.length ≤ 600) (h2 : ys.length ≤ 600) : ∃ x ws, (∀ w ∈ x :: ws, (32 : UInt8) ∉ w) ∧ textQ xs ys q = x ++ Lib.joinTail [32] ws ∧ ws.length ≤ 90000 := by
  by_cases hok : okQ xs ys q = true
  · have e2 : textQ xs ys q = textX xs ys q := by unfold textQ; rw [if_pos hok]
    have hq := (okQ_parts hok).1
    rw [e2, textX_words]
    have n1 := exWords_no32 xs ys hq
    have hl : (exWords xs ys q).length = xs.length + ys.length + 1 := by unfold exWords; simp; omega
    generalize exWords xs ys q = l at *
    cases l with
    | nil => simp at hl
    | cons y r =>
      refine ⟨y, r, n1, Lib.join_cons _ _ _, ?_⟩
      rw [List.length_cons] at hl
      omega
  · have hok2 : okQ xs ys q = false := by simpa using hok
    have e2 : textQ xs ys q = [] := by unfold textQ; rw [hok2]; rfl
    exact ⟨[], [], by simp, by rw [e2, tail_nil]; rfl, by simp⟩
theorem parseQ_any (xs ys : List Int) (q : Int) (hx : rng xs) (hy : rng ys) (h1 : xs.length ≤ 600) (h2 : ys.length ≤ 600) (w : World) (ht : Pow10 w) (m : Int) (hm : w.cell? ⟨1, 0, none⟩ = some (.int .i64 m)) :
    Calls Tryd.prog 13 #[.string ⟨(textQ xs ys q).toArray⟩, .int .i64 q] w (ParsedD ⟨(textQ xs ys q).toArray⟩ q w) := by
  obtain ⟨x, ws, n1, e, hl⟩ := textQ_words xs ys q hx hy h1 h2
  have hlen := textQ_len q hx hy h1 h2
  rw [e] at hlen ⊢
  exact parseD_any x ws n1 hl (by omega) q w ht m hm
set_option maxHeartbeats 4000000 in
theorem walk_texts (v1 v2 : Value) (x1 y1 : List Int) (q : Int) (w : World) (ht : Pow10 w) (m : Int) (hm : w.cell? ⟨1, 0, none⟩ = some (.int .i64 m)) (wx1 : rng x1) (wy1 : rng y1)
    (i1 : IntsW .i64 w.heap.size w v1 x1) (i2 : IntsW .i64 w.heap.size w v2 y1) :
    Calls Tryd.prog 3 #[.agg #[v1, v2], .int .i64 q] w fun e w' => e = .returned (.bool true) ∧ Below w.heap.size w w' := by
  obtain ⟨a1, k1, rfl⟩ := i1.value
  obtain ⟨a2, k2, rfl⟩ := i2.value
  have TA0 := Two.new w 24 (.slice a1 x1.length k1) (.slice a2 y1.length k2)
  have b1 := (Below.refl w.heap.size w).alloc (Nat.le_refl _) (.cells #[.slice a1 x1.length k1, .slice a2 y1.length k2] 24)
  have HSZ := Lib.hid (World.size_alloc w (.cells #[.slice a1 x1.length k1, .slice a2 y1.length k2] 24))
  have HPW1 := Lib.hid (ht.later b1)
  have HM1 := Lib.hid (cell_step b1 hm)
  have HBA := Lib.hid b1
  have HW := Lib.hid (And.intro wx1 wy1)
  have HTT := Lib.hid TA0
  have HJ := Lib.hid (And.intro (i1.later b1) (i2.later b1))
  clear i1 i2 TA0 b1 ht hm wx1 wy1
  go_enter Tryd.func3, Tryd.ntmps3
  go_upto_region 1 with fail
  generalize w.alloc (.cells #[.slice a1 x1.length k1, .slice a2 y1.length k2] 24) = w2 at *
  generalize hN : w.heap.size = N0 at *
  generalize hM : w2.heap.size = M at *
  obtain rfl : M = N0 + 1 := HSZ.out
  have HC := Lib.hid (fun W (hW : Below (N0 + 1) w2 W) => (show (W.cell? ⟨N0, 0, none⟩ = some (.slice a1 x1.length k1) ∧ W.cell? ⟨N0, 1, none⟩ = some (.slice a2 y1.length k2)) from
    (show Two W N0 _ _ _ from (hW.block N0 (by omega)).trans HTT.out).cells))
  have HMS := Lib.hid (fun W (hW : Below (N0 + 1) w2 W) => (show N0 + 1 ≤ W.heap.size by rw [← hM]; exact (show Below w2.heap.size w2 W by rw [hM]; exact hW).size))
  have HI := Lib.hid (fun W (hW : Below (N0 + 1) w2 W) => (show IntsW .i64 W.heap.size W (.slice a1 x1.length k1) x1 ∧ IntsW .i64 W.heap.size W (.slice a2 y1.length k2) y1 from
    ⟨(HJ.out.1.below hW).grow (HMS.out W hW), (HJ.out.2.below hW).grow (HMS.out W hW)⟩))
  have HP := Lib.hid (fun W (hW : Below (N0 + 1) w2 W) => HPW1.out.later (show Below w2.heap.size w2 W by rw [hM]; exact hW))
  have HMM := Lib.hid (fun W (hW : Below (N0 + 1) w2 W) => cell_step (show Below w2.heap.size w2 W by rw [hM]; exact hW) HM1.out)
  have HA := Lib.hid (fun W hW => alive10_any W (HP.out W hW))
  clear HJ HTT HPW1 HSZ HM1
  obtain ⟨c0, c1⟩ := HC.out w2 (Below.refl _ _)
  have hI2 := HI.out w2 (Below.refl _ _)
  have bF := (Below.refl w2.heap.size w2).alloc (Nat.le_refl _) (.cells #[.slice a1 x1.length k1, .slice a2 y1.length k2] 24)
  have hEx := exs_one hI2.1 hI2.2 24
  have HF := Lib.hid (fewX_any _ [(x1, y1)] (by simp [maxLen]) _ hEx)
  unfold FewX at HF
  have DF := Lib.hid (show Below (N0 + 1) w2 _ by rw [← hM]; exact bF)
  clear hI2 bF hEx
  go_wp2_with fail
  rw [hM] at HF
  generalize w2.alloc (.cells #[.slice a1 x1.length k1, .slice a2 y1.length k2] 24) = w3 at *
  refine HF.out.mono ?_
  rintro e w4 ⟨⟨b, rfl, hb⟩, b4⟩
  have D4 := Lib.hid (DF.out.trans (b4.mono (HMS.out _ DF.out)))
  have HFB := Lib.hid hb
  clear HF b4 hb DF c0 c1
  cases b
  · go_wp2_with fail
    refine (HA.out _ D4.out).mono ?_
    rintro e w5 ⟨rfl, b5⟩
    have B5 := HBA.out.trans ((D4.out.trans (b5.mono (HMS.out _ D4.out))).mono (by omega))
    clear D4 b5 HA
    go_wp2_with fail
    go_ret
    exact ⟨rfl, by first | exact B5 | (rw [hN]; exact B5)⟩
  · obtain ⟨_, hlens⟩ := HFB.out rfl
    have l0 := hlens 0 (by simp)
    have p1 : x1.length ≤ 600 := l0.1
    have p2 : y1.length ≤ 600 := l0.2
    have HXT := Lib.hid (fun W (hW : Below (N0 + 1) w2 W) => textQ_any (.slice a1 x1.length k1) (.slice a2 y1.length k2) x1 y1 q (by omega) (by omega) HW.out.1 HW.out.2 W (HP.out W hW) (HI.out W hW).1 (HI.out W hW).2)
    have HXR := Lib.hid (fun W (hW : Below (N0 + 1) w2 W) => refText10_any (.slice a1 x1.length k1) (.slice a2 y1.length k2) x1 y1 q (by omega) (by omega) HW.out.1 HW.out.2 W (HI.out W hW).1 (HI.out W hW).2)
    have HXP := Lib.hid (fun W (hW : Below (N0 + 1) w2 W) => parseQ_any x1 y1 q HW.out.1 HW.out.2 p1 p2 W (HP.out W hW) m (HMM.out W hW))
    have HPB := Lib.hid (show ∀ (xs ys : List Int) (ok : Bool), PExIs ⟨(textQ x1 y1 q).toArray⟩ q xs ys ok → ok = okQ x1 y1 q ∧ (okQ x1 y1 q = true → xs = x1 ∧ ys = y1) from fun xs ys ok h => parse_back HW.out.1 HW.out.2 h)
    have HSR := Lib.hid (fun W (hW : Below (N0 + 1) w2 W) u1 u2 h1 h2 => sameG_any u1 u2 (.slice a1 x1.length k1) (.slice a2 y1.length k2) x1 y1 x1 y1 (by omega) (by omega) (by omega) (by omega) W h1 h2 (HI.out W hW).1 (HI.out W hW).2)
    rw [sameL_self, sameL_self, Bool.and_self] at HSR
    generalize textQ x1 y1 q = tQ at *
    generalize okQ x1 y1 q = okA at *
    have g0 : (tQ != tQ) = false := by simp
    have g1 : (okA != okA) = false := by simp
    clear hlens l0 HFB HW
    obtain ⟨c0, c1⟩ := HC.out w4 D4.out
    go_wp2_with fail
    refine (HXT.out _ D4.out).mono ?_
    rintro e w5 ⟨rfl, b5⟩
    have D5 := Lib.hid (D4.out.trans (b5.mono (HMS.out _ D4.out)))
    clear HXT D4 b5 c0 c1
    obtain ⟨c0, c1⟩ := HC.out w5 D5.out
    go_wp2_with fail
    refine (HXR.out _ D5.out).mono ?_
    rintro e w6 ⟨rfl, b6⟩
    have D6 := Lib.hid (D5.out.trans (b6.mono (HMS.out _ D5.out)))
    clear HXR D5 b6 c0 c1
    go_wp2_with fail
    refine (HXP.out _ D6.out).mono ?_
    rintro e w7 ⟨vx, vy, xs, ys, ok, rfl, ix, iy, b7, hpx⟩
    have D7 := Lib.hid (D6.out.trans (b7.mono (HMS.out _ D6.out)))
    obtain ⟨rfl, hb2⟩ := HPB.out _ _ _ hpx
    have HB2 := Lib.hid hb2
    have IX := Lib.hid ix
    have IY := Lib.hid iy
    obtain ⟨ax, kx, rfl⟩ := ix.value
    obtain ⟨ay, ky, rfl⟩ := iy.value
    clear HXP D6 b7 hpx hb2 ix iy
    have T7 := Two.new w7 24 (.slice ax xs.length kx) (.slice ay ys.length ky)
    have b8 := (Below.refl w7.heap.size w7).alloc (Nat.le_refl _) (.cells #[.slice ax xs.length kx, .slice ay ys.length ky] 24)
    have D8 := Lib.hid (D7.out.trans (b8.mono (HMS.out _ D7.out)))
    have IX8 := Lib.hid (IX.out.later b8)
    have IY8 := Lib.hid (IY.out.later b8)
    have T8 := Lib.hid T7
    clear T7 b8 D7 IX IY
    go_upto_region 8 with fail
    generalize hN7 : w7.heap.size = N7 at *
    generalize w7.alloc (.cells #[.slice ax xs.length kx, .slice ay ys.length ky] 24) = w8 at *
    go_wp2_with fail
    refine (HA.out _ D8.out).mono ?_
    rintro e w9 ⟨rfl, b9⟩
    have D9 := Lib.hid (D8.out.trans (b9.mono (HMS.out _ D8.out)))
    have T9 := Lib.hid (T8.out.later b9)
    have IX9 := Lib.hid (IX8.out.later b9)
    have IY9 := Lib.hid (IY8.out.later b9)
    clear b9 HA D8 T8 IX8 IY8
    cases ok
    · have B9 := HBA.out.trans (D9.out.mono (by omega))
      go_wp2_with fail
      go_ret
      exact ⟨by first | rfl | (simp; done), by first | exact B9 | (rw [hN]; exact B9)⟩
    · obtain ⟨rfl, rfl⟩ := HB2.out rfl
      have HSI := Lib.hid (HSR.out w9 D9.out _ _ IX9.out IY9.out)
      obtain ⟨c0, c1⟩ := HC.out w9 D9.out
      obtain ⟨t0, t1⟩ := T9.out.cells
      clear HSR IX9 IY9
      go_wp2_with fail
      refine HSI.out.mono ?_
      rintro e w10 ⟨rfl, b10⟩
      have B10 := HBA.out.trans ((D9.out.trans (b10.mono (HMS.out _ D9.out))).mono (by omega))
      clear b10 HSI D9 t0 t1 c0 c1
      go_wp2_with fail
      go_ret
      exact ⟨by first | rfl | (simp; done), by first | exact B10 | (rw [hN]; exact B10)⟩
end Go.Proofs.YtcnabebcckbfkaaDoor
