/- The walks of VecHashes and VecChanges. -/
import Derived.Test.YtnojcgikgngniaaVecL
namespace Go.Proofs.Ytnojcgikgngniaa
open Go.RowKit
theorem few_one (v : Value) (zs : List Int) (hm : zs.length ≤ maxLen) (w : World) (hv : IntsAt .i64 w.heap.size w v zs) :
    Calls Try.prog 9 #[.slice (some ⟨w.heap.size, 0, none⟩) 1 1] (w.alloc (.cells #[v] 25)) fun e w' => e = .returned (.bool (fewB [zs])) ∧ w.alloc (.cells #[v] 25) = w' :=
  few_any _ [zs] (by simp [maxLen]) (by simpa using hm) _ _ (rows_one (e := 25) (.inr hv))
theorem few_two (v u : Value) (zs ys : List Int) (hm : zs.length ≤ maxLen) (hm2 : ys.length ≤ maxLen) (w : World) (hv : IntsAt .i64 w.heap.size w v zs) (hu : IntsAt .i64 w.heap.size w u ys) :
    Calls Try.prog 9 #[.slice (some ⟨w.heap.size, 0, none⟩) 2 2] (w.alloc (.cells #[v, u] 25)) fun e w' => e = .returned (.bool (fewB [zs, ys])) ∧ w.alloc (.cells #[v, u] 25) = w' :=
  few_any _ [zs, ys] (by simp [maxLen]) (by simpa using ⟨hm, hm2⟩) _ _ (rows_two (e := 25) (.inr hv) (.inr hu))
set_option maxHeartbeats 1000000 in
theorem walk_hashes (v : Value) (zs : List Int) (w : World) (hm : zs.length ≤ maxLen) (hv : IntsAt .i64 w.heap.size w v zs) :
    Calls Try.prog 7 #[v] w fun e w' => e = .returned (.bool true) ∧ Below w.heap.size w w' := by
  obtain ⟨a, c, rfl⟩ := ints_value hv
  have b1 := (Below.refl w.heap.size w).alloc (Nat.le_refl _) (.cells #[.slice a zs.length c] 25)
  have HF := Lib.hid (few_one _ zs hm w hv)
  have HV := Lib.hid hv
  cases hf : fewB [zs]
  · rw [hf] at HF
    clear hf hv
    go_enter Try.func7, Try.ntmps7
    go_wp2_with fail
    refine HF.out.mono ?_
    rintro e w1 ⟨rfl, rfl⟩
    go_wp2_with fail
    refine (alive_any _).mono ?_
    rintro e w2 ⟨rfl, b2⟩
    go_wp2_with fail
    go_ret
    exact ⟨rfl, below_step b1 b2⟩
  · have hs := (fewB_true hf).2 zs (by simp)
    rw [hf] at HF
    clear hf hv
    go_enter Try.func7, Try.ntmps7
    go_wp2_with fail
    refine HF.out.mono ?_
    rintro e w1 ⟨rfl, rfl⟩
    go_wp2_with fail
    refine (alive_any _).mono ?_
    rintro e w2 ⟨rfl, b2⟩
    have b3 := below_step b1 b2
    go_wp2_with fail
    refine (hash_any _ zs (by omega) _ _ (HV.out.later b3)).mono ?_
    rintro e w3 ⟨rfl, rfl⟩
    go_wp2_with fail
    refine (refHash_any _ zs (by omega) _ _ (HV.out.later b3)).mono ?_
    rintro e w3 ⟨rfl, rfl⟩
    generalize hashL zs = h at *
    go_wp2_with fail
    go_ret
    exact ⟨by first | rfl | (simp; done), b3⟩
set_option maxHeartbeats 1000000 in
theorem walk_changes (v : Value) (zs : List Int) (at_ : Int) (change : Int) (hat : 0 ≤ at_ ∧ at_ ≤ 65535) (hch : -9223372036854775808 ≤ change ∧ change ≤ 9223372036854775807) (hz : ∀ z ∈ zs, -9223372036854775808 ≤ z ∧ z ≤ 9223372036854775807) (w : World) (hm : zs.length ≤ maxLen) (hv : IntsAt .i64 w.heap.size w v zs) :
    Calls Try.prog 8 #[v, .int .u16 at_, .int .i64 change] w fun e w' => e = .returned (.bool true) ∧ Below w.heap.size w w' := by
  obtain ⟨a, c, rfl⟩ := ints_value hv
  have b1 := (Below.refl w.heap.size w).alloc (Nat.le_refl _) (.cells #[.slice a zs.length c] 25)
  have HF := Lib.hid (few_one _ zs hm w hv)
  have HV := Lib.hid hv
  by_cases hbad : fewB [zs] = false ∨ zs.length = 0 ∨ change = 0
  · have HB : Hid (fewB [zs] = false ∨ zs.length = 0 ∨ change = 0) := Lib.hid hbad
    cases hf : fewB [zs]
    · rw [hf] at HF
      clear hf hv hbad HB
      go_enter Try.func8, Try.ntmps8
      go_wp2_with fail
      refine HF.out.mono ?_
      rintro e w1 ⟨rfl, rfl⟩
      go_wp2_with fail
      refine (alive_any _).mono ?_
      rintro e w2 ⟨rfl, b2⟩
      go_wp2_with fail
      go_ret
      exact ⟨rfl, below_step b1 b2⟩
    · rw [hf] at HF hbad
      clear hf hv HB
      by_cases h0 : zs.length = 0
      · have g1 : ((zs.length : Int) == 0) = true := by simp [h0]
        clear hbad h0
        go_enter Try.func8, Try.ntmps8
        go_wp2_with fail
        refine HF.out.mono ?_
        rintro e w1 ⟨rfl, rfl⟩
        go_wp2_with fail
        refine (alive_any _).mono ?_
        rintro e w2 ⟨rfl, b2⟩
        go_wp2_with fail
        go_ret
        exact ⟨rfl, below_step b1 b2⟩
      · have g1 : ((zs.length : Int) == 0) = false := by simp; intro e; simp [e] at h0
        have h2 : change = 0 := by
          rcases hbad with h | h | h
          · cases h
          · exact absurd h h0
          · exact h
        subst h2
        clear hbad h0
        go_enter Try.func8, Try.ntmps8
        go_wp2_with fail
        refine HF.out.mono ?_
        rintro e w1 ⟨rfl, rfl⟩
        go_wp2_with fail
        refine (alive_any _).mono ?_
        rintro e w2 ⟨rfl, b2⟩
        go_wp2_with fail
        go_ret
        exact ⟨rfl, below_step b1 b2⟩
  · have hf : fewB [zs] = true := by cases h : fewB [zs] <;> simp_all
    have h0 : zs.length ≠ 0 := fun h => hbad (.inr (.inl h))
    have hc0 : change ≠ 0 := fun h => hbad (.inr (.inr h))
    have hs := (fewB_true hf).2 zs (by simp)
    rw [hf] at HF
    have g1 : ((zs.length : Int) == 0) = false := by simp; intro e; simp [e] at h0
    have g2 : (change == 0) = false := by simpa using hc0
    have hc1 := Lib.hid hc0
    have hzl : 0 < zs.length := by omega
    obtain ⟨i, hi⟩ : ∃ i : Nat, (i : Int) = at_ % (zs.length : Int) := ⟨(at_ % (zs.length : Int)).toNat, by have := Int.emod_nonneg at_ (show (zs.length : Int) ≠ 0 by omega); omega⟩
    have hil : i < zs.length := by have := Int.emod_lt_of_pos at_ (show (0 : Int) < (zs.length : Int) by omega); omega
    have HI := Lib.hid hi.symm
    have HH := Lib.hid (hash_changed zs i change hil hch hc0)
    clear hf hv hbad h0 hc0 hi
    go_enter Try.func8, Try.ntmps8
    go_wp2_with fail
    refine HF.out.mono ?_
    rintro e w1 ⟨rfl, rfl⟩
    go_wp2_with fail
    refine (refClone_any _ zs (by omega) _ _ (.inr (HV.out.later b1))).mono ?_
    rintro e w2 ⟨t, rfl, ot, b2⟩
    obtain ⟨g, ct, rfl, hg1, hg2⟩ := own_some ot hzl
    have ct1 := ot.cellAt i (by omega)
    have cf1 := ot.frozenAt i
    rw [List.getElem?_map, List.getElem?_eq_getElem hil] at ct1
    simp only [Option.map_some] at ct1
    have hge : zs[i]?.getD 0 = zs[i] := by rw [List.getElem?_eq_getElem hil]; rfl
    have hd := HH.out
    rw [hge] at hd
    have HD := Lib.hid hd
    have ost := ot.stored i (.int .i64 (wrap64 (zs[i] + change)))
    rw [List.set_map_eq] at ost
    have hB2 := below_step b1 b2
    have hB3 := hB2.grown ost.2 (by simpa using hB2.size) (fun k e => by cases e; have := hB2.size; simp at hg1; omega)
    have HX := Lib.hid (And.intro ost.1 hB3)
    clear ost hB2 hB3 hd hge HH ot
    generalize zs[i] = x at *
    have hmod := HI.out
    go_wp2_with fail
    refine (alive_any _).mono ?_
    rintro e w3 ⟨rfl, b3⟩
    have hT : IntsAt .i64 w3.heap.size w3 (.slice (some ⟨g, 0, none⟩) zs.length ct) (zs.set i (wrap64 (x + change))) := (IntsAt.of_owns (by simp) HX.out.1).later b3
    have hB4 := below_step HX.out.2 b3
    have HT := Lib.hid hT
    clear hT
    have hls : (zs.set i (wrap64 (x + change))).length = zs.length := List.length_set
    have HLS := Lib.hid hls
    clear hls
    generalize zs.set i (wrap64 (x + change)) = us at *
    go_wp2_with fail
    refine (hash_any _ us (by rw [HLS.out]; omega) _ _ HT.out).mono ?_
    rintro e w5 ⟨rfl, rfl⟩
    go_wp2_with fail
    refine (hash_any _ zs (by omega) _ _ (HV.out.later hB4)).mono ?_
    rintro e w5 ⟨rfl, rfl⟩
    have hne : (hashL us != hashL zs) = true := by simpa using HD.out
    generalize hashL zs = h1 at *
    go_wp2_with fail
    refine (hash_any _ us (by rw [HLS.out]; omega) _ _ HT.out).mono ?_
    rintro e w5 ⟨rfl, rfl⟩
    go_wp2_with fail
    refine (refHash_any _ us (by rw [HLS.out]; omega) _ _ HT.out).mono ?_
    rintro e w5 ⟨rfl, rfl⟩
    generalize hashL us = h2 at *
    go_wp2_with fail
    go_ret
    exact ⟨by first | rfl | (simp; done), hB4⟩
end Go.Proofs.Ytnojcgikgngniaa
