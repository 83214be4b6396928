/- Layer 10: the check of examples, Few. -/
import Derived.Test.YtcnabebcckbfkaaDoorExs
import Derived.Test.YtcnabebcckbfkaaDoorDecT
namespace Go.Proofs.YtcnabebcckbfkaaDoor
open Go.RowKit
set_option linter.unusedVariables false
def goodE (p q : Int) (e : Ex) : Bool := ((e.1.length : Int) == p) && ((e.2.length : Int) == q)
/-- the result of a check: the first example that has not the right lengths -/
def chk (es : List Ex) (p q : Int) : Int × Bool := match es.findIdx? (fun e => !goodE p q e) with
  | some k => ((k : Int), false)
  | none => (0, true)
theorem chk_bad {es : List Ex} {p q : Int} {k : Nat} (hk : k < es.length) (hg : ∀ j, j < k → goodE p q (exAt es j) = true) (hb : goodE p q (exAt es k) = false) : chk es p q = ((k : Int), false) := by
  have e : es.findIdx? (fun e => !goodE p q e) = some k := by
    rw [List.findIdx?_eq_some_iff_getElem]
    refine ⟨hk, ?_, fun j hj => ?_⟩
    · unfold exAt at hb
      rw [List.getElem?_eq_getElem hk, Option.getD_some] at hb
      simp [hb]
    · have h := hg j hj
      unfold exAt at h
      rw [List.getElem?_eq_getElem (by omega), Option.getD_some] at h
      simp [h]
  unfold chk
  rw [e]
theorem chk_ok {es : List Ex} {p q : Int} (hg : ∀ j, j < es.length → goodE p q (exAt es j) = true) : chk es p q = (0, true) := by
  have e : es.findIdx? (fun e => !goodE p q e) = none := by
    rw [List.findIdx?_eq_none_iff]
    intro x hx
    obtain ⟨j, hj, rfl⟩ := List.getElem_of_mem hx
    have h := hg j hj
    unfold exAt at h
    rw [List.getElem?_eq_getElem hj, Option.getD_some] at h
    simp [h]
  unfold chk
  rw [e]
def Checked (es : List Ex) (p q : Int) (w : World) (e : Ending) (w' : World) : Prop := e = .returned (.tuple #[.int .i64 (chk es p q).1, .bool (chk es p q).2]) ∧ Below w.heap.size w w'
set_option maxHeartbeats 2000000 in
theorem checkD_any (v : Value) (es : List Ex) (p q : Int) (hm : es.length ≤ maxLen) (w : World) (hv : ExsAt w.heap.size w v es) :
    Calls Tryd.prog 16 #[v, .int .i64 p, .int .i64 q] w (Checked es p q w) := by
  obtain ⟨a, c, rfl⟩ := hv.value
  have HV := Lib.hid hv
  have B0 := Lib.hid (Below.refl w.heap.size w)
  clear hv
  unfold maxLen at hm
  go_enter Tryd.func16, Tryd.ntmps16
  go_wp2_with fail
  go_loopw [8, 9, 12] (fun _ _ iv wr => ∃ k : Nat, k ≤ es.length ∧ iv = .int .i64 k ∧ Hid (∀ j, j < k → goodE p q (exAt es j) = true) ∧ Hid (Below w.heap.size w wr)) (fun _ _ iv _ => es.length - (intOf iv).toNat)
  case atStart => exact ⟨0, Nat.zero_le _, rfl, Lib.hid (fun j hj => absurd hj (Nat.not_lt_zero j)), B0⟩
  case round =>
    obtain ⟨k, hk, rfl, HG, HB⟩ := hrel
    by_cases hlt : k < es.length
    · obtain ⟨b, off, rfl, hb, ax, cx, ay, cy, c0, c1, -, -⟩ := (HV.out.below HB.out).at hlt
      have hbw : b < wr.heap.size := World.block_lt_of_cell? _ _ c0
      have HBAD := Lib.hid (fun h => chk_bad (p := p) (q := q) hlt HG.out h)
      have HGN : Hid (goodE p q (exAt es k) = true → ∀ j, j < k + 1 → goodE p q (exAt es j) = true) := Lib.hid (fun h j hj => by
        rcases Nat.lt_succ_iff_lt_or_eq.1 hj with h1 | rfl
        · exact HG.out j h1
        · exact h)
      have HGE := Lib.hid (show goodE p q (exAt es k) = (((exAt es k).1.length : Int) == p && ((exAt es k).2.length : Int) == q) from rfl)
      generalize (exAt es k).1.length = lx at *
      generalize (exAt es k).2.length = ly at *
      have al := Lib.hid (HB.out.alloc HB.out.size (.cells #[.slice ax lx cx, .slice ay ly cy] 24))
      by_cases l1 : (lx : Int) = p
      · have g1 : ((lx : Int) != p) = false := by simpa using l1
        by_cases l2 : (ly : Int) = q
        · have g2 : ((ly : Int) != q) = false := by simpa using l2
          have HG2 := Lib.hid (HGN.out (by rw [HGE.out, l1, l2]; simp))
          have L1 := Lib.hid l1
          have L2 := Lib.hid l2
          clear l1 l2
          go_wp2_with fail
          go_roundw
          case rel => exact ⟨k + 1, by omega, by go_num, HG2, al⟩
          case measure => simp [intOf]; omega
        · have g2 : ((ly : Int) != q) = true := by simpa using l2
          have H := Lib.hid (HBAD.out (by rw [HGE.out, show ((ly : Int) == q) = false by simpa using l2, Bool.and_false]))
          have L1 := Lib.hid l1
          clear l1 l2
          go_wp2_with fail
          go_ret2
          exact ⟨by first | (rw [H.out]; done) | (rw [H.out]; rfl), al.out⟩
      · have g1 : ((lx : Int) != p) = true := by simpa using l1
        have H := Lib.hid (HBAD.out (by rw [HGE.out, show ((lx : Int) == p) = false by simpa using l1, Bool.false_and]))
        clear l1
        go_wp2_with fail
        go_ret2
        exact ⟨by first | (rw [H.out]; done) | (rw [H.out]; rfl), al.out⟩
    · have hke : k = es.length := by omega
      subst hke
      have H := Lib.hid (chk_ok HG.out)
      go_wp2_with fail
      go_ret2
      exact ⟨by first | (rw [H.out]; done) | (rw [H.out]; rfl), HB.out⟩
set_option maxHeartbeats 2000000 in
theorem refCheckD_any (v : Value) (es : List Ex) (p q : Int) (hm : es.length ≤ maxLen) (w : World) (hv : ExsAt w.heap.size w v es) :
    Calls Tryd.prog 17 #[v, .int .i64 p, .int .i64 q] w (Checked es p q w) := by
  obtain ⟨a, c, rfl⟩ := hv.value
  have HV := Lib.hid hv
  have B0 := Lib.hid (Below.refl w.heap.size w)
  clear hv
  unfold maxLen at hm
  go_enter Tryd.func17, Tryd.ntmps17
  go_wp2_with fail
  go_loopw [8] (fun iv wr => ∃ k : Nat, k ≤ es.length ∧ iv = .int .i64 k ∧ Hid (∀ j, j < k → goodE p q (exAt es j) = true) ∧ Hid (Below w.heap.size w wr)) (fun iv _ => es.length - (intOf iv).toNat)
  case atStart => exact ⟨0, Nat.zero_le _, rfl, Lib.hid (fun j hj => absurd hj (Nat.not_lt_zero j)), B0⟩
  case round =>
    obtain ⟨k, hk, rfl, HG, HB⟩ := hrel
    by_cases hlt : k < es.length
    · obtain ⟨b, off, rfl, hb, ax, cx, ay, cy, c0, c1, -, -⟩ := (HV.out.below HB.out).at hlt
      have hbw : b < wr.heap.size := World.block_lt_of_cell? _ _ c0
      have HBAD := Lib.hid (fun h => chk_bad (p := p) (q := q) hlt HG.out h)
      have HGN : Hid (goodE p q (exAt es k) = true → ∀ j, j < k + 1 → goodE p q (exAt es j) = true) := Lib.hid (fun h j hj => by
        rcases Nat.lt_succ_iff_lt_or_eq.1 hj with h1 | rfl
        · exact HG.out j h1
        · exact h)
      have HGE := Lib.hid (show goodE p q (exAt es k) = (((exAt es k).1.length : Int) == p && ((exAt es k).2.length : Int) == q) from rfl)
      generalize (exAt es k).1.length = lx at *
      generalize (exAt es k).2.length = ly at *
      by_cases l1 : (lx : Int) = p
      · have g1 : ((lx : Int) != p) = false := by simpa using l1
        by_cases l2 : (ly : Int) = q
        · have g2 : ((ly : Int) != q) = false := by simpa using l2
          have HG2 := Lib.hid (HGN.out (by rw [HGE.out, l1, l2]; simp))
          have L1 := Lib.hid l1
          have L2 := Lib.hid l2
          clear l1 l2
          go_wp2_with fail
          go_roundw
          case rel => exact ⟨k + 1, by omega, by go_num, HG2, HB⟩
          case measure => simp [intOf]; omega
        · have g2 : ((ly : Int) != q) = true := by simpa using l2
          have H := Lib.hid (HBAD.out (by rw [HGE.out, show ((ly : Int) == q) = false by simpa using l2, Bool.and_false]))
          have L1 := Lib.hid l1
          clear l1 l2
          go_wp2_with fail
          go_ret2
          exact ⟨by first | (rw [H.out]; done) | (rw [H.out]; rfl), HB.out⟩
      · have g1 : ((lx : Int) != p) = true := by simpa using l1
        have H := Lib.hid (HBAD.out (by rw [HGE.out, show ((lx : Int) == p) = false by simpa using l1, Bool.false_and]))
        clear l1
        go_wp2_with fail
        go_ret2
        exact ⟨by first | (rw [H.out]; done) | (rw [H.out]; rfl), HB.out⟩
    · have hke : k = es.length := by omega
      subst hke
      have H := Lib.hid (chk_ok HG.out)
      go_wp2_with fail
      go_ret2
      exact ⟨by first | (rw [H.out]; done) | (rw [H.out]; rfl), HB.out⟩
def FewD (es : List Ex) (w : World) (e : Ending) (w' : World) : Prop := (∃ b : Bool, e = .returned (.bool b) ∧ (b = true → es.length ≤ 60)) ∧ Below w.heap.size w w'
set_option maxHeartbeats 2000000 in
theorem fewD_any (v : Value) (es : List Ex) (hm : es.length ≤ maxLen) (w : World) (hv : ExsAt w.heap.size w v es) :
    Calls Tryd.prog 9 #[v] w (FewD es w) := by
  obtain ⟨a, c, rfl⟩ := hv.value
  have HV := Lib.hid hv
  have B0 := Lib.hid (Below.refl w.heap.size w)
  clear hv
  unfold maxLen at hm
  go_enter Tryd.func9, Tryd.ntmps9
  go_wp2_with fail
  go_loopw [3, 4] (fun nv iv wr => ∃ k s : Nat, k ≤ es.length ∧ k ≤ 100 ∧ s ≤ k * 2000 ∧ iv = .int .i64 k ∧ nv = .int .i64 s ∧ Hid (Below w.heap.size w wr)) (fun _ iv _ => 100 - (intOf iv).toNat)
  case atStart => exact ⟨0, 0, Nat.zero_le _, Nat.zero_le _, Nat.zero_le _, rfl, rfl, B0⟩
  case round =>
    obtain ⟨k, s, hk, hk100, hs, rfl, rfl, HB⟩ := hrel
    by_cases hlt : k < es.length ∧ k < 100
    · obtain ⟨hl1, hl2⟩ := hlt
      obtain ⟨b, off, rfl, hb, ax, cx, ay, cy, c0, c1, -, -⟩ := (HV.out.below HB.out).at hl1
      have hbw : b < wr.heap.size := World.block_lt_of_cell? _ _ c0
      generalize (exAt es k).1.length = lx at *
      generalize (exAt es k).2.length = ly at *
      obtain ⟨mx, hmx⟩ : ∃ mx : Nat, min (lx : Int) 1000 = mx := ⟨min lx 1000, by omega⟩
      obtain ⟨my, hmy⟩ : ∃ my : Nat, min (ly : Int) 1000 = my := ⟨min ly 1000, by omega⟩
      have b1 : mx ≤ 1000 := by omega
      have b2 : my ≤ 1000 := by omega
      go_wp2_with fail
      go_region
      have B2 := Lib.hid HB.out.drew
      go_wp2_with fail
      go_roundw
      case rel => exact ⟨k + 1, s + mx + my, by omega, by omega, by omega, by go_num, by go_num, B2⟩
      case measure => simp [intOf]; omega
    · have g : es.length ≤ k ∨ 100 ≤ k := by omega
      by_cases g1 : (es.length : Int) ≤ 60
      · have d1 : decide ((es.length : Int) ≤ 60) = true := by simpa using g1
        have g1' : es.length ≤ 60 := by omega
        have g2 : es.length ≤ k := by omega
        go_wp2_with fail
        go_ret
        exact ⟨⟨_, rfl, fun _ => g1'⟩, HB.out⟩
      · have d1 : decide ((es.length : Int) ≤ 60) = false := by simpa using g1
        rcases g with g | g
        · go_wp2_with fail
          go_ret
          exact ⟨⟨_, rfl, fun h => by simp at h⟩, HB.out⟩
        · by_cases g3 : k < es.length
          · go_wp2_with fail
            go_ret
            exact ⟨⟨_, rfl, fun h => by simp at h⟩, HB.out⟩
          · go_wp2_with fail
            go_ret
            exact ⟨⟨_, rfl, fun h => by simp at h⟩, HB.out⟩
end Go.Proofs.YtcnabebcckbfkaaDoor
