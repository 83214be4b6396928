/- More walks of the laws of layer 4: searches and covers over any list of ranges. -/
import Derived.Test.YtpdeckmplkmieaaPartL
import Derived.Test.YtpdeckmplkmieaaPartA
namespace Go.Proofs.Ytpdeckmplkmieaa
open Go.RowKit
theorem RangesAt.shape {n₀ : Nat} {w : World} {v : Value} {rs : List (Int × Int)} (h : RangesAt n₀ w v rs) : ∃ a c, v = .slice a rs.length c := by
  rcases h.form with ⟨rfl, rfl⟩ | ⟨b, off, cap, rfl, _⟩ <;> exact ⟨_, _, rfl⟩
set_option maxHeartbeats 1000000 in
theorem walk_finds (v : Value) (i : Int) (rs : List (Int × Int)) (w : World) (hm : rs.length ≤ maxLen) (hL : RangesAt w.heap.size w v rs) :
    Calls Try.prog 5 #[v, .int .i64 i] w fun e w' => e = .returned (.bool true) ∧ Below w.heap.size w w' := by
  unfold maxLen at hm
  obtain ⟨a, c, rfl⟩ := hL.shape
  have V0 := Lib.hid hL
  clear hL
  by_cases h3 : 300 < rs.length
  · go_enter Try.func5, Try.ntmps5
    go_wp2_with fail
    refine (alive_any _).mono ?_
    rintro e w5 ⟨rfl, h5⟩
    go_wp2
    go_ret
    exact ⟨rfl, h5⟩
  · go_enter Try.func5, Try.ntmps5
    go_wp2_with fail
    refine (alive_any _).mono ?_
    rintro e w1 ⟨rfl, h1⟩
    have V1 := Lib.hid (V0.out.later h1)
    go_wp2_with fail
    refine (given_any _ rs (by omega) _ V1.out).mono ?_
    rintro e w2 ⟨u, rfl, ho2, h2⟩
    have V2 := Lib.hid (V1.out.later h2)
    have U2 := Lib.hid (RangesAt.new ho2)
    clear ho2
    go_wp2_with fail
    refine (of_any i u rs (by omega) _ U2.out).mono ?_
    rintro e w3 ⟨rfl, h3⟩
    have V3 := Lib.hid (V2.out.later h3)
    go_wp2_with fail
    refine (refOf_any i _ rs (by omega) _ V3.out).mono ?_
    rintro e w4 ⟨rfl, rfl⟩
    go_wp2
    go_ret
    have b12 := h1.trans (h2.mono h1.size)
    exact ⟨ret_b (by simp), b12.trans (h3.mono b12.size)⟩
set_option maxHeartbeats 2000000 in
theorem walk_covers (n : Int) (v : Value) (rs : List (Int × Int)) (w : World) (hm : rs.length ≤ maxLen) (hw : ∀ r ∈ rs, (-9223372036854775808 ≤ r.1 ∧ r.1 ≤ 9223372036854775807) ∧ -9223372036854775808 ≤ r.2 ∧ r.2 ≤ 9223372036854775807) (hL : RangesAt w.heap.size w v rs) :
    Calls Try.prog 6 #[.int .i64 n, v] w fun e w' => e = .returned (.bool true) ∧ Below w.heap.size w w' := by
  unfold maxLen at hm
  obtain ⟨a, c, rfl⟩ := hL.shape
  have V0 := Lib.hid hL
  clear hL
  by_cases h3 : 300 < rs.length
  · clear hw
    go_enter Try.func6, Try.ntmps6
    go_wp2_with fail
    refine (alive_any _).mono ?_
    rintro e w5 ⟨rfl, h5⟩
    go_wp2
    go_ret
    exact ⟨rfl, h5⟩
  · have HW := Lib.hid hw
    clear hw
    go_enter Try.func6, Try.ntmps6
    go_wp2
    go_loopw [6, 7, 14] (fun _ _ i wr => ∃ k : Nat, k ≤ rs.length ∧ i = .int .i64 k ∧ Below w.heap.size w wr) (fun _ _ i _ => rs.length - (intOf i).toNat)
    case atStart => exact ⟨0, Nat.zero_le _, rfl, Below.refl _ _⟩
    case round =>
      obtain ⟨k, hk, rfl, hB⟩ := hrel
      by_cases hlt : k < rs.length
      · rcases V0.out.form with ⟨_, e0⟩ | ⟨b, off, cap, e0, _, hb, hcs⟩
        · rw [e0] at hlt; cases hlt
        cases e0
        have h0 := (hB.cell (p := ⟨b, off + k * 2, none⟩) hb).trans (hcs k hlt).1
        have h1 := (hB.cell (p := ⟨b, off + k * 2 + 1, none⟩) hb).trans (hcs k hlt).2
        have hr := HW.out rs[k] (List.getElem_mem hlt)
        clear hcs
        generalize rs[k].1 = lo at h0 hr
        generalize rs[k].2 = hi at h1 hr
        obtain ⟨⟨r1, r2⟩, r3, r4⟩ := hr
        by_cases hx : 1099511627776 < lo ∨ 1099511627776 < hi
        · go_wp2_with (go_at_call 8; refine (alive_any _).mono ?_; rintro e w5 ⟨rfl, h5⟩)
          all_goals go_ret
          all_goals exact ⟨rfl, (hB.alloc hB.size _).trans (h5.mono (by have := hB.size; simp; omega))⟩
        · by_cases hy : lo < -1099511627776 ∨ hi < -1099511627776
          · go_wp2_with (go_at_call 8; refine (alive_any _).mono ?_; rintro e w5 ⟨rfl, h5⟩)
            all_goals go_ret
            all_goals exact ⟨rfl, (hB.alloc hB.size _).trans (h5.mono (by have := hB.size; simp; omega))⟩
          · have S := fun W => size_any lo hi (by omega) (by omega) (by omega) (by omega) W
            have s1 : lo ≤ 1099511627776 := by omega
            have s2 : hi ≤ 1099511627776 := by omega
            have s3 : -1099511627776 ≤ lo := by omega
            have s4 : -1099511627776 ≤ hi := by omega
            clear hx hy
            by_cases hE : lo < hi
            · rw [show sizeR (lo, hi) = hi - lo by unfold sizeR; omega] at S
              go_wp2_with (go_at_call 21; refine (S _).mono ?_; rintro e w5 ⟨rfl, h5⟩)
              go_roundw
              case rel => exact ⟨k + 1, by omega, by go_num, (hB.alloc hB.size _).trans (h5.mono (by have := hB.size; simp; omega))⟩
              case measure => simp [intOf]; omega
            · rw [show sizeR (lo, hi) = 0 by unfold sizeR; omega] at S
              go_wp2_with (go_at_call 21; refine (S _).mono ?_; rintro e w5 ⟨rfl, h5⟩)
              go_roundw
              case rel => exact ⟨k + 1, by omega, by go_num, (hB.alloc hB.size _).trans (h5.mono (by have := hB.size; simp; omega))⟩
              case measure => simp [intOf]; omega
      · have hk' : k = rs.length := by omega
        subst hk'
        have V1 := Lib.hid (V0.out.later hB)
        go_wp2_with fail
        refine (alive_any _).mono ?_
        rintro e w1 ⟨rfl, h1⟩
        have V2 := Lib.hid (V1.out.later h1)
        go_wp2_with fail
        refine (given_any _ rs (by omega) _ V2.out).mono ?_
        rintro e w2 ⟨u, rfl, ho2, h2⟩
        have V3 := Lib.hid (V2.out.later h2)
        have U3 := Lib.hid (RangesAt.new ho2)
        clear ho2
        go_wp2_with fail
        refine (covers_any n u rs (by omega) _ U3.out).mono ?_
        rintro e w3 ⟨rfl, h3⟩
        have V4 := Lib.hid (V3.out.later h3)
        go_wp2_with fail
        refine (refCovers_any n _ rs (by omega) _ V4.out).mono ?_
        rintro e w4 ⟨rfl, rfl⟩
        go_wp2
        go_ret
        have b1 := hB.trans (h1.mono hB.size)
        have b2 := b1.trans (h2.mono b1.size)
        exact ⟨ret_b (by simp), b2.trans (h3.mono b2.size)⟩
end Go.Proofs.Ytpdeckmplkmieaa
