/- Helpers of the laws of layer 4: copies of lists of ranges, comparisons, sizes, searches, covers. -/
import Derived.Test.YtdnaildhcnekfaaDoorPartC
import Derived.Deep.RegionHeld3
namespace Go.Proofs.YtdnaildhcnekfaaDoor
open Go.RowKit
theorem take_snoc_r (rs : List (Int × Int)) (k : Nat) (h : k < rs.length) : rs.take (k + 1) = rs.take k ++ [(rs[k].1, rs[k].2)] := List.take_succ_eq_append_getElem h
theorem drop_cons_r (rs : List (Int × Int)) (k : Nat) (h : k < rs.length) : rs.drop k = (rs[k].1, rs[k].2) :: rs.drop (k + 1) := List.drop_eq_getElem_cons h





def sizeR (r : Int × Int) : Int := max (r.2 - r.1) 0
def hasR (r : Int × Int) (i : Int) : Bool := decide (r.1 ≤ i) && decide (i < r.2)
theorem has_any (lo hi i : Int) (w : World) :
    Calls Tryd.prog 38 #[.agg #[.int .i64 lo, .int .i64 hi], .int .i64 i] w fun e w' => e = .returned (.bool (hasR (lo, hi) i)) ∧ Below w.heap.size w w' := by
  by_cases h : lo ≤ i
  · have H := Lib.hid (show hasR (lo, hi) i = decide (i < hi) by simp [hasR, h])
    go_enter Tryd.func38, Tryd.ntmps38
    go_wp2
    go_ret
    exact ⟨ret_b (by rw [H.out]), (Below.refl _ _).alloc (Nat.le_refl _) _⟩
  · have H := Lib.hid (show hasR (lo, hi) i = false by simp [hasR]; omega)
    have h' : i < lo := by omega
    go_enter Tryd.func38, Tryd.ntmps38
    go_wp2
    go_ret
    exact ⟨ret_b (by rw [H.out]), (Below.refl _ _).alloc (Nat.le_refl _) _⟩
theorem findR_cons (i : Int) (r : Int × Int) (rs : List (Int × Int)) (k : Nat) : findR i (r :: rs) k = if hasR r i = true then (k : Int) else findR i rs (k + 1) := by
  simp only [findR, hasR, Bool.and_eq_true, decide_eq_true_eq]
theorem findR_drop (i : Int) (rs : List (Int × Int)) (k : Nat) (h : k < rs.length) : findR i (rs.drop k) k = if hasR (rs[k].1, rs[k].2) i = true then (k : Int) else findR i (rs.drop (k + 1)) (k + 1) := by
  rw [drop_cons_r rs k h, findR_cons]
theorem chain_drop (a n : Int) (rs : List (Int × Int)) (k : Nat) (h : k < rs.length) : Chain a (rs.drop k) n = (rs[k].1 == a && decide (a ≤ rs[k].2) && Chain rs[k].2 (rs.drop (k + 1)) n) := by
  rw [drop_cons_r rs k h]; rfl
set_option maxHeartbeats 1000000 in
theorem of_any (i : Int) (v : Value) (rs : List (Int × Int)) (hm : rs.length ≤ 1048576) (w : World) (hL : RangesAt w.heap.size w v rs) :
    Calls Tryd.prog 32 #[.int .i64 i, v] w fun e w' => e = .returned (.int .i64 (findR i rs 0)) ∧ Below w.heap.size w w' := by
  rcases hL.form with ⟨rfl, rfl⟩ | ⟨b, off, cap, rfl, hcap, hb, hcs⟩
  · go_enter Tryd.func32, Tryd.ntmps32
    go_wp2
    go_loopw [5, 8] (fun _ j wr => j = .int .i64 0 ∧ wr = w) (fun _ _ _ => 0)
    case atStart => exact ⟨rfl, rfl⟩
    case round =>
      obtain ⟨rfl, rfl⟩ := hrel
      go_wp2
      go_ret
      exact ⟨rfl, Below.refl _ _⟩
  · go_enter Tryd.func32, Tryd.ntmps32
    go_wp2
    go_loopw [5, 8] (fun _ j wr => ∃ k : Nat, k ≤ rs.length ∧ j = .int .i64 k ∧ Below w.heap.size w wr ∧ Hid (findR i rs 0 = findR i (rs.drop k) k)) (fun _ j _ => rs.length - (intOf j).toNat)
    case atStart => exact ⟨0, Nat.zero_le _, rfl, Below.refl _ _, Lib.hid rfl⟩
    case round =>
      obtain ⟨k, hk, rfl, hB, HF⟩ := hrel
      by_cases hlt : k < rs.length
      · have h0 := (hB.cell (p := ⟨b, off + k * 2, none⟩) hb).trans (hcs k hlt).1
        have h1 := (hB.cell (p := ⟨b, off + k * 2 + 1, none⟩) hb).trans (hcs k hlt).2
        have HD := Lib.hid (findR_drop i rs k hlt)
        have HL := Lib.hid hL
        clear hL hcs
        generalize rs[k].1 = lo at h0 HD
        generalize rs[k].2 = hi at h1 HD
        have HA := fun W => has_any lo hi i W
        cases hh : hasR (lo, hi) i
        · rw [hh] at HA
          have HD' := Lib.hid (show findR i (rs.drop k) k = findR i (rs.drop (k + 1)) (k + 1) by rw [HD.out, hh]; rfl)
          clear hh
          go_wp2_with (go_at_call 38; refine (HA _).mono ?_; rintro e w2 ⟨rfl, hb2⟩)
          go_roundw
          case rel => exact ⟨k + 1, by omega, by go_num, hB.trans (hb2.mono hB.size), Lib.hid (HF.out.trans HD'.out)⟩
          case measure => simp [intOf]; omega
        · rw [hh] at HA
          have HD' := Lib.hid (show findR i (rs.drop k) k = k by rw [HD.out, hh]; rfl)
          clear hh
          go_wp2_with (go_at_call 38; refine (HA _).mono ?_; rintro e w2 ⟨rfl, hb2⟩)
          go_ret
          exact ⟨ret_i (HF.out.trans HD'.out).symm, hB.trans (hb2.mono hB.size)⟩
      · have hk' : k = rs.length := by omega
        subst hk'
        have HD' := Lib.hid (show findR i (rs.drop rs.length) rs.length = -1 by rw [List.drop_length]; rfl)
        clear hcs hL
        go_wp2
        go_ret
        exact ⟨ret_i (HF.out.trans HD'.out).symm, hB⟩
set_option maxHeartbeats 1000000 in
theorem covers_any (n : Int) (v : Value) (rs : List (Int × Int)) (hm : rs.length ≤ 1048576) (w : World) (hL : RangesAt w.heap.size w v rs) :
    Calls Tryd.prog 20 #[.int .i64 n, v] w fun e w' => e = .returned (.bool (Chain 0 rs n)) ∧ Below w.heap.size w w' := by
  rcases hL.form with ⟨rfl, rfl⟩ | ⟨b, off, cap, rfl, hcap, hb, hcs⟩
  · have H := Lib.hid (show Chain 0 [] n = (0 == n) from rfl)
    go_enter Tryd.func20, Tryd.ntmps20
    go_wp2
    go_loopw [5, 7, 8, 11] (fun a _ _ j wr => a = .int .i64 0 ∧ j = .int .i64 0 ∧ wr = w) (fun _ _ _ _ _ => 0)
    case atStart => exact ⟨rfl, rfl, rfl⟩
    case round =>
      obtain ⟨rfl, rfl, rfl⟩ := hrel
      go_wp2
      go_ret
      exact ⟨ret_b H.out.symm, Below.refl _ _⟩
  · go_enter Tryd.func20, Tryd.ntmps20
    go_wp2
    go_loopw [5, 7, 8, 11] (fun a _ _ j wr => ∃ (k : Nat) (at_ : Int), k ≤ rs.length ∧ j = .int .i64 k ∧ a = .int .i64 at_ ∧ Below w.heap.size w wr ∧ Hid (Chain 0 rs n = Chain at_ (rs.drop k) n)) (fun _ _ _ j _ => rs.length - (intOf j).toNat)
    case atStart => exact ⟨0, 0, Nat.zero_le _, rfl, rfl, Below.refl _ _, Lib.hid rfl⟩
    case round =>
      obtain ⟨k, x, hk, rfl, rfl, hB, HF⟩ := hrel
      by_cases hlt : k < rs.length
      · have h0 := (hB.cell (p := ⟨b, off + k * 2, none⟩) hb).trans (hcs k hlt).1
        have h1 := (hB.cell (p := ⟨b, off + k * 2 + 1, none⟩) hb).trans (hcs k hlt).2
        have HD := Lib.hid (chain_drop x n rs k hlt)
        have HL := Lib.hid hL
        clear hL hcs
        generalize rs[k].1 = lo at h0 HD
        generalize rs[k].2 = hi at h1 HD
        by_cases h2 : lo = x
        · subst h2
          by_cases h3 : lo ≤ hi
          · have HD' := Lib.hid (show Chain lo (rs.drop k) n = Chain hi (rs.drop (k + 1)) n by rw [HD.out]; simp [h3])
            have hx : max lo hi = hi := by omega
            go_wp2
            go_roundw
            case rel => exact ⟨k + 1, hi, by omega, by go_num, rfl, (hB.alloc hB.size _).alloc (by have := hB.size; simp; omega) _, Lib.hid (HF.out.trans HD'.out)⟩
            case measure => simp [intOf]; omega
          · have HD' := Lib.hid (show Chain lo (rs.drop k) n = false by rw [HD.out]; simp [h3])
            have hx : max lo hi = lo := by omega
            have hn : (hi == lo) = false := by simp; omega
            go_wp2
            go_ret
            exact ⟨ret_b (HF.out.trans HD'.out).symm, (hB.alloc hB.size _).alloc (by have := hB.size; simp; omega) _⟩
        · have HD' := Lib.hid (show Chain x (rs.drop k) n = false by rw [HD.out]; simp [h2])
          have hn : (lo == x) = false := by simpa using h2
          clear h2
          go_wp2
          all_goals go_ret
          all_goals exact ⟨ret_b (HF.out.trans HD'.out).symm, (hB.alloc hB.size _).alloc (by have := hB.size; simp; omega) _⟩
      · have hk' : k = rs.length := by omega
        subst hk'
        have HD' := Lib.hid (show Chain x (rs.drop rs.length) n = (x == n) by rw [List.drop_length]; rfl)
        clear hcs hL
        go_wp2
        go_ret
        exact ⟨ret_b (HF.out.trans HD'.out).symm, hB⟩
end Go.Proofs.YtdnaildhcnekfaaDoor
