/- Helpers of the laws of layer 4: copies of lists of ranges, comparisons, sizes, searches, covers. -/
import Derived.Test.YtpghiebedjogpaaPartC
import Derived.Deep.RegionHeld3
namespace Go.Proofs.Ytpghiebedjogpaa
open Go.RowKit
theorem take_snoc_r (rs : List (Int × Int)) (k : Nat) (h : k < rs.length) : rs.take (k + 1) = rs.take k ++ [(rs[k].1, rs[k].2)] := List.take_succ_eq_append_getElem h
theorem drop_cons_r (rs : List (Int × Int)) (k : Nat) (h : k < rs.length) : rs.drop k = (rs[k].1, rs[k].2) :: rs.drop (k + 1) := List.drop_eq_getElem_cons h



set_option maxHeartbeats 1000000 in
theorem eqRef_same (v u : Value) (rs : List (Int × Int)) (hm : rs.length ≤ 1048576) (w : World) (hv : RangesAt w.heap.size w v rs) (hu : RangesAt w.heap.size w u rs) :
    Calls Try.prog 9 #[v, u] w fun e w' => e = .returned (.bool true) ∧ Below w.heap.size w w' := by
  by_cases hz : rs = []
  · subst hz
    obtain ⟨a, cap, rfl⟩ : ∃ a cap, v = .slice a 0 cap := by rcases hv.form with ⟨rfl, _⟩ | ⟨b, off, cap, rfl, _⟩ <;> exact ⟨_, _, rfl⟩
    obtain ⟨a', cap', rfl⟩ : ∃ a cap, u = .slice a 0 cap := by rcases hu.form with ⟨rfl, _⟩ | ⟨b, off, cap, rfl, _⟩ <;> exact ⟨_, _, rfl⟩
    clear hv hu hm
    go_enter Try.func9, Try.ntmps9
    go_wp2
    go_loop [13] (fun i => i = .int .i64 0) (fun _ => 0)
    case atStart => exact rfl
    case round =>
      obtain rfl := hrel
      go_wp2
      go_ret
      exact ⟨rfl, Below.refl _ _⟩
  · have hp : 0 < rs.length := List.length_pos_iff.2 hz
    rcases hv.form with ⟨_, h⟩ | ⟨b, off, cap, rfl, _, _, hc⟩
    · exact absurd h hz
    rcases hu.form with ⟨_, h⟩ | ⟨b', off', cap', rfl, _, _, hc'⟩
    · exact absurd h hz
    clear hv hu hz
    go_enter Try.func9, Try.ntmps9
    go_wp2
    go_loopw [5, 13] (fun _ i wr => ∃ k q : Nat, k ≤ rs.length ∧ i = .int .i64 k ∧ wr = w.drewN q) (fun _ i _ => rs.length - (intOf i).toNat)
    case atStart => exact ⟨0, 0, Nat.zero_le _, rfl, rfl⟩
    case round =>
      obtain ⟨k, q, hk, rfl, rfl⟩ := hrel
      by_cases hlt : k < rs.length
      · have h0 := (hc k hlt).1
        have h1 := (hc k hlt).2
        have h0' := (hc' k hlt).1
        have h1' := (hc' k hlt).2
        clear hc hc'
        generalize rs[k].1 = lo at h0 h0'
        generalize rs[k].2 = hi at h1 h1'
        go_wp2
        go_quiet (fail)
        go_wp2
        go_roundw
        case rel => exact ⟨k + 1, _, by omega, by go_num, rfl⟩
        case measure => simp [intOf]; omega
      · have hk' : k = rs.length := by omega
        subst hk'
        clear hc hc'
        go_wp2
        go_ret
        exact ⟨rfl, below_drewN (Below.refl _ _) _⟩

set_option maxHeartbeats 1000000 in
theorem eqPart_same (v u : Value) (rs : List (Int × Int)) (hm : rs.length ≤ 1048576) (w : World) (hv : RangesAt w.heap.size w v rs) (hu : RangesAt w.heap.size w u rs) :
    Calls Try.prog 23 #[v, u] w fun e w' => e = .returned (.bool true) ∧ Below w.heap.size w w' := by
  by_cases hz : rs = []
  · subst hz
    obtain ⟨a, cap, rfl⟩ : ∃ a cap, v = .slice a 0 cap := by rcases hv.form with ⟨rfl, _⟩ | ⟨b, off, cap, rfl, _⟩ <;> exact ⟨_, _, rfl⟩
    obtain ⟨a', cap', rfl⟩ : ∃ a cap, u = .slice a 0 cap := by rcases hu.form with ⟨rfl, _⟩ | ⟨b, off, cap, rfl, _⟩ <;> exact ⟨_, _, rfl⟩
    clear hv hu hm
    go_enter Try.func23, Try.ntmps23
    go_wp2
    go_loop [13] (fun i => i = .int .i64 0) (fun _ => 0)
    case atStart => exact rfl
    case round =>
      obtain rfl := hrel
      go_wp2
      go_ret
      exact ⟨rfl, Below.refl _ _⟩
  · have hp : 0 < rs.length := List.length_pos_iff.2 hz
    rcases hv.form with ⟨_, h⟩ | ⟨b, off, cap, rfl, _, _, hc⟩
    · exact absurd h hz
    rcases hu.form with ⟨_, h⟩ | ⟨b', off', cap', rfl, _, _, hc'⟩
    · exact absurd h hz
    clear hv hu hz
    go_enter Try.func23, Try.ntmps23
    go_wp2
    go_loopw [5, 13] (fun _ i wr => ∃ k q : Nat, k ≤ rs.length ∧ i = .int .i64 k ∧ wr = w.drewN q) (fun _ i _ => rs.length - (intOf i).toNat)
    case atStart => exact ⟨0, 0, Nat.zero_le _, rfl, rfl⟩
    case round =>
      obtain ⟨k, q, hk, rfl, rfl⟩ := hrel
      by_cases hlt : k < rs.length
      · have h0 := (hc k hlt).1
        have h1 := (hc k hlt).2
        have h0' := (hc' k hlt).1
        have h1' := (hc' k hlt).2
        clear hc hc'
        generalize rs[k].1 = lo at h0 h0'
        generalize rs[k].2 = hi at h1 h1'
        go_wp2
        go_quiet (fail)
        go_wp2
        go_roundw
        case rel => exact ⟨k + 1, _, by omega, by go_num, rfl⟩
        case measure => simp [intOf]; omega
      · have hk' : k = rs.length := by omega
        subst hk'
        clear hc hc'
        go_wp2
        go_ret
        exact ⟨rfl, below_drewN (Below.refl _ _) _⟩

def sizeR (r : Int × Int) : Int := max (r.2 - r.1) 0
theorem size_any (lo hi : Int) (h1 : -1099511627776 ≤ lo) (h2 : lo ≤ 1099511627776) (h3 : -1099511627776 ≤ hi) (h4 : hi ≤ 1099511627776) (w : World) :
    Calls Try.prog 29 #[.agg #[.int .i64 lo, .int .i64 hi]] w fun e w' => e = .returned (.int .i64 (sizeR (lo, hi))) ∧ Below w.heap.size w w' := by
  have H := Lib.hid (show sizeR (lo, hi) = max (hi - lo) 0 from rfl)
  go_enter Try.func29, Try.ntmps29
  go_wp2
  all_goals go_ret
  all_goals exact ⟨ret_i (by rw [H.out]; omega), (Below.refl _ _).alloc (Nat.le_refl _) _⟩
def hasR (r : Int × Int) (i : Int) : Bool := decide (r.1 ≤ i) && decide (i < r.2)
theorem has_any (lo hi i : Int) (w : World) :
    Calls Try.prog 40 #[.agg #[.int .i64 lo, .int .i64 hi], .int .i64 i] w fun e w' => e = .returned (.bool (hasR (lo, hi) i)) ∧ Below w.heap.size w w' := by
  by_cases h : lo ≤ i
  · have H := Lib.hid (show hasR (lo, hi) i = decide (i < hi) by simp [hasR, h])
    go_enter Try.func40, Try.ntmps40
    go_wp2
    go_ret
    exact ⟨ret_b (by rw [H.out]), (Below.refl _ _).alloc (Nat.le_refl _) _⟩
  · have H := Lib.hid (show hasR (lo, hi) i = false by simp [hasR]; omega)
    have h' : i < lo := by omega
    go_enter Try.func40, Try.ntmps40
    go_wp2
    go_ret
    exact ⟨ret_b (by rw [H.out]), (Below.refl _ _).alloc (Nat.le_refl _) _⟩
theorem findR_cons (i : Int) (r : Int × Int) (rs : List (Int × Int)) (k : Nat) : findR i (r :: rs) k = if hasR r i = true then (k : Int) else findR i rs (k + 1) := by
  simp only [findR, hasR, Bool.and_eq_true, decide_eq_true_eq]
theorem findR_drop (i : Int) (rs : List (Int × Int)) (k : Nat) (h : k < rs.length) : findR i (rs.drop k) k = if hasR (rs[k].1, rs[k].2) i = true then (k : Int) else findR i (rs.drop (k + 1)) (k + 1) := by
  rw [drop_cons_r rs k h, findR_cons]
theorem chain_drop (a n : Int) (rs : List (Int × Int)) (k : Nat) (h : k < rs.length) : Chain a (rs.drop k) n = (rs[k].1 == a && decide (a ≤ rs[k].2) && Chain rs[k].2 (rs.drop (k + 1)) n) := by
  rw [drop_cons_r rs k h]; rfl
set_option maxHeartbeats 1000000 in
theorem of_any (i : Int) (v : Value) (rs : List (Int × Int)) (hm : rs.length ≤ 1048576) (w : World) (hL : RangesAt w.heap.size w v rs) :
    Calls Try.prog 37 #[.int .i64 i, v] w fun e w' => e = .returned (.int .i64 (findR i rs 0)) ∧ Below w.heap.size w w' := by
  rcases hL.form with ⟨rfl, rfl⟩ | ⟨b, off, cap, rfl, hcap, hb, hcs⟩
  · go_enter Try.func37, Try.ntmps37
    go_wp2
    go_loopw [5, 8] (fun _ j wr => j = .int .i64 0 ∧ wr = w) (fun _ _ _ => 0)
    case atStart => exact ⟨rfl, rfl⟩
    case round =>
      obtain ⟨rfl, rfl⟩ := hrel
      go_wp2
      go_ret
      exact ⟨rfl, Below.refl _ _⟩
  · go_enter Try.func37, Try.ntmps37
    go_wp2
    go_loopw [5, 8] (fun _ j wr => ∃ k : Nat, k ≤ rs.length ∧ j = .int .i64 k ∧ Below w.heap.size w wr ∧ Hid (findR i rs 0 = findR i (rs.drop k) k)) (fun _ j _ => rs.length - (intOf j).toNat)
    case atStart => exact ⟨0, Nat.zero_le _, rfl, Below.refl _ _, Lib.hid rfl⟩
    case round =>
      obtain ⟨k, hk, rfl, hB, HF⟩ := hrel
      by_cases hlt : k < rs.length
      · have h0 := (hB.cell (p := ⟨b, off + k * 2, none⟩) hb).trans (hcs k hlt).1
        have h1 := (hB.cell (p := ⟨b, off + k * 2 + 1, none⟩) hb).trans (hcs k hlt).2
        have HD := Lib.hid (findR_drop i rs k hlt)
        have HL := Lib.hid hL
        clear hL hcs
        generalize rs[k].1 = lo at h0 HD
        generalize rs[k].2 = hi at h1 HD
        have HA := fun W => has_any lo hi i W
        cases hh : hasR (lo, hi) i
        · rw [hh] at HA
          have HD' := Lib.hid (show findR i (rs.drop k) k = findR i (rs.drop (k + 1)) (k + 1) by rw [HD.out, hh]; rfl)
          clear hh
          go_wp2_with (go_at_call 40; refine (HA _).mono ?_; rintro e w2 ⟨rfl, hb2⟩)
          go_roundw
          case rel => exact ⟨k + 1, by omega, by go_num, hB.trans (hb2.mono hB.size), Lib.hid (HF.out.trans HD'.out)⟩
          case measure => simp [intOf]; omega
        · rw [hh] at HA
          have HD' := Lib.hid (show findR i (rs.drop k) k = k by rw [HD.out, hh]; rfl)
          clear hh
          go_wp2_with (go_at_call 40; refine (HA _).mono ?_; rintro e w2 ⟨rfl, hb2⟩)
          go_ret
          exact ⟨ret_i (HF.out.trans HD'.out).symm, hB.trans (hb2.mono hB.size)⟩
      · have hk' : k = rs.length := by omega
        subst hk'
        have HD' := Lib.hid (show findR i (rs.drop rs.length) rs.length = -1 by rw [List.drop_length]; rfl)
        clear hcs hL
        go_wp2
        go_ret
        exact ⟨ret_i (HF.out.trans HD'.out).symm, hB⟩
set_option maxHeartbeats 1000000 in
theorem refOf_any (i : Int) (v : Value) (rs : List (Int × Int)) (hm : rs.length ≤ 1048576) (w : World) (hL : RangesAt w.heap.size w v rs) :
    Calls Try.prog 35 #[.int .i64 i, v] w fun e w' => e = .returned (.int .i64 (findR i rs 0)) ∧ w = w' := by
  rcases hL.form with ⟨rfl, rfl⟩ | ⟨b, off, cap, rfl, hcap, hb, hcs⟩
  · go_enter Try.func35, Try.ntmps35
    go_wp2
    go_loop [5] (fun j => j = .int .i64 0) (fun _ => 0)
    case atStart => exact rfl
    case round =>
      obtain rfl := hrel
      go_wp2
      go_ret
      exact ⟨rfl, rfl⟩
  · go_enter Try.func35, Try.ntmps35
    go_wp2
    go_loop [5] (fun j => ∃ k : Nat, k ≤ rs.length ∧ j = .int .i64 k ∧ Hid (findR i rs 0 = findR i (rs.drop k) k)) (fun j => rs.length - (intOf j).toNat)
    case atStart => exact ⟨0, Nat.zero_le _, rfl, Lib.hid rfl⟩
    case round =>
      obtain ⟨k, hk, rfl, HF⟩ := hrel
      by_cases hlt : k < rs.length
      · have h0 := (hcs k hlt).1
        have h1 := (hcs k hlt).2
        have HD := Lib.hid (findR_drop i rs k hlt)
        have HL := Lib.hid hL
        clear hL hcs
        generalize rs[k].1 = lo at h0 HD
        generalize rs[k].2 = hi at h1 HD
        by_cases hh : lo ≤ i ∧ i < hi
        · have HD' := Lib.hid (show findR i (rs.drop k) k = k by rw [HD.out, if_pos (by simp [hasR, hh])])
          obtain ⟨g1, g2⟩ := hh
          go_wp2
          go_ret
          exact ⟨ret_i (HF.out.trans HD'.out).symm, rfl⟩
        · have HD' := Lib.hid (show findR i (rs.drop k) k = findR i (rs.drop (k + 1)) (k + 1) by rw [HD.out, if_neg (by simp [hasR]; omega)])
          have hh' : ¬ lo ≤ i ∨ lo ≤ i ∧ ¬ i < hi := by omega
          clear hh
          rcases hh' with g | ⟨g, g'⟩
          all_goals
            go_wp2
            go_round
            case rel => exact ⟨k + 1, by omega, by go_num, Lib.hid (HF.out.trans HD'.out)⟩
            case measure => simp [intOf]; omega
      · have hk' : k = rs.length := by omega
        subst hk'
        have HD' := Lib.hid (show findR i (rs.drop rs.length) rs.length = -1 by rw [List.drop_length]; rfl)
        clear hcs hL
        go_wp2
        go_ret
        exact ⟨ret_i (HF.out.trans HD'.out).symm, rfl⟩
end Go.Proofs.Ytpghiebedjogpaa
