/- Layer 6: what is marked, Valid, the reference's search and Valid, the identity. -/
import Derived.Test.YtanfdajllhlcbaaProg
import Derived.Test.YtanfdajllhlcbaaShelf
import Derived.ProofKit
import Derived.Test.YtanfdajllhlcbaaPrmM
import Derived.Test.YtanfdajllhlcbaaMapI
import Derived.Test.YtanfdajllhlcbaaLaw
import Derived.Test.YtanfdajllhlcbaaArg
namespace Go.Proofs.Ytanfdajllhlcbaa
open Go.RowKit Go.Maps
set_option linter.unusedVariables false
def SeenM (w : World) (b : Nat) (p : List Int) (k : Nat) : Prop := MapIs Try.prog w 3 4 b k (litsB fun z => (p.take k).contains z)
theorem SeenM.zero {w : World} {b : Nat} {p : List Int} (h : MapIs Try.prog w 3 4 b 0 (fun _ => none)) : SeenM w b p 0 := by
  have e : (litsB fun z => (p.take 0).contains z) = (fun _ => none) := by
    funext z
    unfold litsB
    simp
  unfold SeenM
  rw [e]; exact h
theorem contains_snoc (l : List Int) (y x : Int) : (l ++ [y]).contains x = (l.contains x || x == y) := by
  rw [Bool.eq_iff_iff]
  simp
theorem litsB_put (p : List Int) (k : Nat) (h : k < p.length) (x : Int) : litsB (fun z => (p.take (k + 1)).contains z) x = if x = p[k]?.getD 0 then some (.bool true) else litsB (fun z => (p.take k).contains z) x := by
  unfold litsB
  rw [List.take_succ_eq_append_getElem h, List.getElem?_eq_getElem h, Option.getD_some]
  show (if (p.take k ++ [p[k]]).contains x = true then _ else _) = if x = p[k] then _ else if (p.take k).contains x = true then _ else _
  rw [contains_snoc]
  by_cases e : x = p[k]
  · rw [if_pos e, show (x == p[k]) = true by simpa using e, Bool.or_true, if_pos rfl]
  · rw [if_neg e, show (x == p[k]) = false by simpa using e, Bool.or_false]
def MarkDone (b : Nat) (p : List Int) (w : World) (e : Ending) (w' : World) : Prop :=
  e = .returned (.bool (validB p)) ∧ (∃ k, k ≤ p.length ∧ SeenM w' b p k) ∧ w.grownBy w' (some b)
set_option maxHeartbeats 1000000 in
theorem mark_any (b B : Nat) (hB : B ≤ b) (v : Value) (p : List Int) (hm : p.length ≤ 1048576) (hz : ∀ z ∈ p, -9223372036854775808 ≤ z ∧ z ≤ 9223372036854775807) (w : World) (hv : IntsAt .i64 B w v p) (hs : SeenM w b p 0) :
    Calls Try.prog 32 #[.map (some b), v] w (MarkDone b p w) := by
  have hbl := MapIs.lt hs
  obtain ⟨a, c, rfl⟩ := ints_value hv
  have HV := Lib.hid hv
  have HS := Lib.hid hs
  have HZ := Lib.hid hz
  have HG0 := Lib.hid (World.grownBy.refl w (some b))
  clear hv hs hz
  go_enter Try.func32, Try.ntmps32
  go_wp2_with fail
  go_loopw [4, 6, 9] (fun _ _ i wr => ∃ k : Nat, k ≤ p.length ∧ i = .int .i64 k ∧ Hid (SeenM wr b p k) ∧ Hid (w.grownBy wr (some b)) ∧ Hid (GoodTo p k)) (fun _ _ i _ => p.length - (intOf i).toNat)
  case atStart => exact ⟨0, Nat.zero_le _, rfl, HS, HG0, Lib.hid (fun j hj => absurd hj (Nat.not_lt_zero j))⟩
  case round =>
    obtain ⟨k, hk, rfl, HM, HG, HO⟩ := hrel
    by_cases hlt : k < p.length
    · rcases HV.out.form with ⟨_, e0⟩ | ⟨b', off, cap, e0, hc, hb', hcs⟩
      · rw [e0] at hlt; cases hlt
      cases e0
      have hbw : b' < w.heap.size := World.block_lt_of_cell? _ _ (hcs k hlt)
      have c0 := (grown_cell (o := off + k) HG.out hbw (show b' ≠ b by omega)).trans (hcs k hlt)
      have hbw' : b' < wr.heap.size := World.block_lt_of_cell? _ _ c0
      have hx := HZ.out (p[k]?.getD 0) (by rw [List.getElem?_eq_getElem hlt, Option.getD_some]; exact List.getElem_mem hlt)
      have hlk := MapIs.look_bool (t := 63) HM.out Try.underlying3 Try.underlying63 Try.underlying4 (Try.zeroValue4 wr) (wf_of hx)
      obtain ⟨w', hup, hm', hgr⟩ := MapIs.put (t := 63) (f' := litsB fun z => (p.take (k + 1)).contains z) HM.out Try.underlying3 Try.underlying63 (by unfold maxLen; omega) (wf_of hx) (val := .bool true) (plainElem_bool Try.underlying4 true) (litsB_put p k hlt)
      have HM' := Lib.hid (show SeenM w' b p (k + 1) from hm')
      have HG' := Lib.hid (grown_trans HG.out hgr)
      have HSU := Lib.hid (fun h => GoodTo.succ (p := p) HO.out h)
      have HNO := Lib.hid (fun h => valid_no (p := p) hlt h)
      have hga : goodAt p k = (decide (0 ≤ p[k]?.getD 0) && (decide (p[k]?.getD 0 < p.length) && !((p.take k).contains (p[k]?.getD 0)))) := rfl
      clear hcs hm' hgr
      generalize (p.take k).contains (p[k]?.getD 0) = sn at *
      generalize p[k]?.getD 0 = x at *
      by_cases h1 : x < 0
      · have g1 : decide (x < 0) = true := by simpa using h1
        have H := Lib.hid (HNO.out (by rw [hga, show decide (0 ≤ x) = false by simp; omega]; rfl))
        clear hga
        go_wp2_with fail
        go_ret
        exact ⟨by rw [H.out]; rfl, ⟨k, hk, HM.out⟩, HG.out⟩
      · have g1 : decide (x < 0) = false := by simpa using h1
        by_cases h2 : (p.length : Int) ≤ x
        · have g2 : decide ((p.length : Int) ≤ x) = true := by simpa using h2
          have H := Lib.hid (HNO.out (by rw [hga, show decide (x < p.length) = false by simp; omega]; simp))
          clear hga
          go_wp2_with fail
          go_ret
          exact ⟨by rw [H.out]; rfl, ⟨k, hk, HM.out⟩, HG.out⟩
        · have g2 : decide ((p.length : Int) ≤ x) = false := by simpa using h2
          rw [show decide (0 ≤ x) = true by simp; omega, show decide (x < p.length) = true by simp; omega] at hga
          cases sn
          · have H := Lib.hid (HSU.out (by rw [hga]; rfl))
            clear hga
            go_wp2_with fail
            go_roundw
            case rel => exact ⟨k + 1, by omega, by go_num, HM', HG', H⟩
            case measure => simp [intOf]; omega
          · have H := Lib.hid (HNO.out (by rw [hga]; rfl))
            clear hga
            go_wp2_with fail
            go_ret
            exact ⟨by rw [H.out]; rfl, ⟨k, hk, HM.out⟩, HG.out⟩
    · have hk' : k = p.length := by omega
      subst hk'
      have H2 := Lib.hid (valid_yes HO.out)
      go_wp2_with fail
      go_ret
      exact ⟨by rw [H2.out]; rfl, ⟨_, Nat.le_refl _, HM.out⟩, HG.out⟩
theorem valid_any (v : Value) (p : List Int) (hm : p.length ≤ 1048576) (hz : ∀ z ∈ p, -9223372036854775808 ≤ z ∧ z ≤ 9223372036854775807) (w : World) (hv : IntsAt .i64 w.heap.size w v p) :
    Calls Try.prog 18 #[v] w fun e w' => e = .returned (.bool (validB p)) ∧ Below w.heap.size w w' := by
  obtain ⟨a, c, rfl⟩ := ints_value hv
  have hmm := @run_makeMap Try.prog
  have AL := (Below.refl w.heap.size w).alloc (Nat.le_refl _) (.map #[] 0)
  have M0 := Lib.hid (SeenM.zero (p := p) (MapIs.new Try.prog w 3 4))
  have HV := Lib.hid (hv.below AL)
  have hb : w.heap.size < (w.alloc (.map #[] 0)).heap.size := by simp
  clear hv
  go_enter Try.func18, Try.ntmps18
  go_wp2_with fail
  refine (mark_any w.heap.size w.heap.size (Nat.le_refl _) _ p hm hz _ HV.out M0.out).mono ?_
  rintro e w1 ⟨rfl, -, g1⟩
  have B1 := Lib.hid (AL.grown g1 (Nat.le_of_lt hb) (fun k e => by cases e; exact Nat.le_refl _))
  clear g1
  go_wp2_with fail
  go_ret
  exact ⟨rfl, B1.out⟩
theorem place_any (v : Value) (p : List Int) (hm : p.length ≤ 1048576) (x : Int) (w : World) (hv : IntsAt .i64 w.heap.size w v p) :
    Calls Try.prog 35 #[v, .int .i64 x] w fun e w' => e = .returned (.int .i64 (placeR x p 0)) ∧ w = w' := by
  obtain ⟨a, c, rfl⟩ := ints_value hv
  have HV := Lib.hid hv
  clear hv
  go_enter Try.func35, Try.ntmps35
  go_wp2_with fail
  go_loopw [4, 5] (fun _ i wr => ∃ k : Nat, k ≤ p.length ∧ i = .int .i64 k ∧ wr = w ∧ Hid (placeR x p 0 = placeR x (p.drop k) k)) (fun _ i _ => p.length - (intOf i).toNat)
  case atStart => exact ⟨0, Nat.zero_le _, rfl, rfl, Lib.hid rfl⟩
  case round =>
    obtain ⟨k, hk, rfl, rfl, HP⟩ := hrel
    by_cases hlt : k < p.length
    · rcases HV.out.form with ⟨_, e0⟩ | ⟨b', off, cap, e0, hc, hb', hcs⟩
      · rw [e0] at hlt; cases hlt
      cases e0
      have c0 := hcs k hlt
      have hbw' : b' < wr.heap.size := World.block_lt_of_cell? _ _ c0
      have HD := Lib.hid (HP.out.trans (placeR_drop x p k hlt))
      clear hcs
      generalize p[k]?.getD 0 = y at *
      by_cases h : y = x
      · have g : (y == x) = true := by simpa using h
        have H := Lib.hid (HD.out.trans (if_pos h))
        go_wp2_with fail
        go_ret
        exact ⟨by rw [H.out]; rfl, rfl⟩
      · have g : (y == x) = false := by simpa using h
        have H := Lib.hid (HD.out.trans (if_neg h))
        go_wp2_with fail
        go_roundw
        case rel => exact ⟨k + 1, by omega, by go_num, by trivial, H⟩
        case measure => simp [intOf]; omega
    · have hk' : k = p.length := by omega
      subst hk'
      have H := Lib.hid (HP.out.trans (by rw [List.drop_length]; rfl) : placeR x p 0 = -1)
      go_wp2_with fail
      go_ret
      exact ⟨by rw [H.out]; rfl, rfl⟩
theorem refValid_any (v : Value) (p : List Int) (hm : p.length ≤ 1048576) (w : World) (hv : IntsAt .i64 w.heap.size w v p) :
    Calls Try.prog 34 #[v] w fun e w' => e = .returned (.bool (validB p)) ∧ w = w' := by
  obtain ⟨a, c, rfl⟩ := ints_value hv
  have HV := Lib.hid hv
  have HR := Lib.hid (ref_valid p)
  clear hv
  go_enter Try.func34, Try.ntmps34
  go_wp2_with fail
  go_loopw [2, 3] (fun _ i wr => ∃ k : Nat, k ≤ p.length ∧ i = .int .i64 k ∧ wr = w ∧ Hid (∀ j, j < k → 0 ≤ placeR (j : Int) p 0)) (fun _ i _ => p.length - (intOf i).toNat)
  case atStart => exact ⟨0, Nat.zero_le _, rfl, rfl, Lib.hid (fun j hj => absurd hj (Nat.not_lt_zero j))⟩
  case round =>
    obtain ⟨k, hk, rfl, rfl, HP⟩ := hrel
    by_cases hlt : k < p.length
    · go_wp2_with fail
      refine (place_any _ p hm k _ HV.out).mono ?_
      rintro e w1 ⟨rfl, rfl⟩
      by_cases h : placeR (k : Int) p 0 < 0
      · have H := Lib.hid (show validB p = false by
          rw [← HR.out, Bool.eq_false_iff]
          intro ht
          have := List.all_eq_true.1 ht k (List.mem_range.2 hlt)
          have := of_decide_eq_true this
          omega)
        have g : decide (placeR (k : Int) p 0 < 0) = true := by simpa using h
        generalize placeR (k : Int) p 0 = y at *
        go_wp2_with fail
        go_ret
        exact ⟨by rw [H.out]; rfl, rfl⟩
      · have H := Lib.hid (show ∀ j, j < k + 1 → 0 ≤ placeR (j : Int) p 0 from fun j hj => by
          rcases Nat.lt_succ_iff_lt_or_eq.1 hj with h1 | rfl
          · exact HP.out j h1
          · omega)
        have g : decide (placeR (k : Int) p 0 < 0) = false := by simpa using h
        generalize placeR (k : Int) p 0 = y at *
        go_wp2_with fail
        go_roundw
        case rel => exact ⟨k + 1, by omega, by go_num, by trivial, H⟩
        case measure => simp [intOf]; omega
    · have hk' : k = p.length := by omega
      subst hk'
      have H := Lib.hid (show validB p = true by
        rw [← HR.out]
        exact List.all_eq_true.2 fun j hj => decide_eq_true (HP.out j (List.mem_range.1 hj)))
      go_wp2_with fail
      go_ret
      exact ⟨by rw [H.out]; rfl, rfl⟩
end Go.Proofs.Ytanfdajllhlcbaa
