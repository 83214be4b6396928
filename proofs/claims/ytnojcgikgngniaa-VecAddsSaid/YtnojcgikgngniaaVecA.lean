/- The walks of VecAdds and VecSame. -/
import Derived.Test.YtnojcgikgngniaaVecW
import Derived.Test.YtnojcgikgngniaaVecR
namespace Go.Proofs.Ytnojcgikgngniaa
open Go.RowKit
theorem word_of {zs : List Int} (h : ∀ z ∈ zs, -9223372036854775808 ≤ z ∧ z ≤ 9223372036854775807) : ∀ z ∈ zs, Word z := h
set_option maxHeartbeats 2000000 in
theorem walk_adds (v u : Value) (zs ys : List Int) (hz : ∀ z ∈ zs, -9223372036854775808 ≤ z ∧ z ≤ 9223372036854775807) (hy : ∀ z ∈ ys, -9223372036854775808 ≤ z ∧ z ≤ 9223372036854775807) (w : World) (hm : zs.length ≤ maxLen) (hm2 : ys.length ≤ maxLen) (hv : IntsAt .i64 w.heap.size w v zs) (hu : IntsAt .i64 w.heap.size w u ys) :
    Calls Try.prog 4 #[v, u] w fun e w' => e = .returned (.bool true) ∧ Below w.heap.size w w' := by
  obtain ⟨a, c, rfl⟩ := ints_value hv
  obtain ⟨a2, c2, rfl⟩ := ints_value hu
  have b1 := (Below.refl w.heap.size w).alloc (Nat.le_refl _) (.cells #[.slice a zs.length c, .slice a2 ys.length c2] 25)
  have HF := Lib.hid (few_two _ _ zs ys hm hm2 w hv hu)
  have HV := Lib.hid hv
  have HU := Lib.hid hu
  have HZ := Lib.hid hz
  have HY := Lib.hid hy
  cases hf : fewB [zs, ys]
  · rw [hf] at HF
    clear hf hv hu hz hy
    go_enter Try.func4, Try.ntmps4
    go_wp2_with fail
    refine HF.out.mono ?_
    rintro e w1 ⟨rfl, rfl⟩
    go_wp2_with fail
    refine (alive_any _).mono ?_
    rintro e w2 ⟨rfl, b2⟩
    go_wp2_with fail
    go_ret
    exact ⟨rfl, below_step b1 b2⟩
  · have hs := (fewB_true hf).2 zs (by simp)
    have hs2 := (fewB_true hf).2 ys (by simp)
    rw [hf] at HF
    clear hf hv hu hz hy
    go_enter Try.func4, Try.ntmps4
    go_wp2_with fail
    refine HF.out.mono ?_
    rintro e w1 ⟨rfl, rfl⟩
    go_wp2_with fail
    refine (refClone_any _ zs (by omega) _ _ (.inr (HV.out.later b1))).mono ?_
    rintro e w2 ⟨ta, rfl, oa, b2⟩
    have hB2 := below_step b1 b2
    obtain ⟨pa, ca, rfl⟩ := own_value oa
    have OA := Lib.hid oa
    clear oa
    go_wp2_with fail
    refine (refClone_any _ ys (by omega) _ _ (.inr (HU.out.later hB2))).mono ?_
    rintro e w3 ⟨tb, rfl, ob, b3⟩
    have hB3 := below_step hB2 b3
    obtain ⟨pb, cb, rfl⟩ := own_value ob
    have OB := Lib.hid ob
    have OA3 := Lib.hid (own_below OA.out b3)
    have hwz : w.heap.size ≤ (w.alloc (.cells #[.slice a zs.length c, .slice a2 ys.length c2] 25)).heap.size := by simp
    have hw2 := b2.size
    have hw3 := b3.size
    have hlow : Hid (∀ k, (Value.slice pa zs.length ca).ownBlock = some k → w.heap.size ≤ k ∧ k < w2.heap.size) := Lib.hid (fun k e => ⟨Nat.le_trans hwz (OA.out.lt k e).1, (OA.out.lt k e).2⟩)
    clear ob
    have hA := add_any (.slice pa zs.length ca) (.slice pb ys.length cb) zs ys (by omega) (by omega) _ w3.heap.size w3 (Nat.le_trans hw2 hw3) OA3.out (Nat.le_refl _) (.inr (ints_own OB.out))
    have HA := Lib.hid hA
    clear hA
    by_cases hl : zs.length = ys.length
    · have HL := Lib.hid hl
      clear hl
      go_wp2_with fail
      refine HA.out.mono ?_
      intro e w4 hd
      unfold AddedTo at hd
      rw [if_pos HL.out] at hd
      obtain ⟨rfl, oa4, g4⟩ := hd
      have ob4 := row_other OB.out g4 (fun k e => (hlow.out k e).2)
      have hB4 := hB3.grown g4 (by have := hB3.size; omega) (fun k e => (hlow.out k e).1)
      have hk : sumOk [zs, ys] = true := by simp [sumOk, alike, HL.out]
      have hsl : sumL [zs, ys] = addL zs ys := by simp [sumL, alike, HL.out]
      have HB4 := Lib.hid hB4
      have X := rows_two (e := 25) (.inr (HV.out.later hB4)) (.inr (HU.out.later hB4))
      have HS := refSum_any _ [zs, ys] (by simp [maxLen]) (by simp; omega) (by simp only [List.mem_cons, List.not_mem_nil, or_false, forall_eq_or_imp, forall_eq]; exact ⟨word_of HZ.out, word_of HY.out⟩) _ _ (Nat.le_refl _) X
      unfold SumIs at HS
      rw [hk, hsl] at HS
      have HSS := Lib.hid HS
      have O4 := Lib.hid (And.intro oa4 ob4)
      have b5 := (Below.refl w4.heap.size w4).alloc (Nat.le_refl _) (.cells #[.slice a zs.length c, .slice a2 ys.length c2] 25)
      have hall := addL_length zs ys HL.out
      have HLL := Lib.hid hall
      clear HS X hk hsl oa4 ob4 hB4 g4 hall
      generalize addL zs ys = ss at *
      go_wp2_with fail
      refine HSS.out.mono ?_
      rintro e w6 ⟨t, rfl, ot, b6⟩
      obtain ⟨pt, ct, rfl⟩ := own_value ot
      have b7 := below_step b5 b6
      have HI := Lib.hid (And.intro (ints_own ot) (And.intro ((IntsAt.of_owns HLL.out.symm O4.out.1).later b7) ((ints_own O4.out.2).later b7)))
      have HB7 := Lib.hid (below_step HB4.out b7)
      clear ot b7
      go_wp2_with fail
      refine (alive_any _).mono ?_
      rintro e w8 ⟨rfl, b8⟩
      have hB8 := below_step HB7.out b8
      go_wp2_with fail
      refine (refSame_any _ _ ss ss (by rw [HLL.out]; omega) (by rw [HLL.out]; omega) _ (HI.out.2.1.later b8) (HI.out.1.later b8)).mono ?_
      rintro e w9 ⟨rfl, b9⟩
      rw [sameL_self]
      have hB9 := below_step hB8 b9
      go_wp2_with fail
      refine (refSame_any _ _ ys ys (by omega) (by omega) _ ((HI.out.2.2.later b8).later b9) (HU.out.later hB9)).mono ?_
      rintro e w10 ⟨rfl, b10⟩
      rw [sameL_self]
      go_wp2_with fail
      go_ret
      exact ⟨by first | rfl | (simp; done), below_step hB9 b10⟩
    · have HL := Lib.hid hl
      clear hl
      go_wp2_with fail
      refine HA.out.mono ?_
      intro e w4 hd
      unfold AddedTo at hd
      rw [if_neg HL.out] at hd
      obtain ⟨rfl, b4⟩ := hd
      have oa4 := own_below OA3.out b4
      have ob4 := own_below OB.out b4
      have hB4 := below_step hB3 b4
      have hk : sumOk [zs, ys] = false := by simp [sumOk, alike]; exact fun e => HL.out e.symm
      have hsl : sumL [zs, ys] = [] := by simp only [sumL, alike, List.all_cons, List.all_nil, Bool.and_true]; rw [if_neg]; simp; exact fun e => HL.out e.symm
      have HB4 := Lib.hid hB4
      have X := rows_two (e := 25) (.inr (HV.out.later hB4)) (.inr (HU.out.later hB4))
      have HS := refSum_any _ [zs, ys] (by simp [maxLen]) (by simp; omega) (by simp only [List.mem_cons, List.not_mem_nil, or_false, forall_eq_or_imp, forall_eq]; exact ⟨word_of HZ.out, word_of HY.out⟩) _ _ (Nat.le_refl _) X
      unfold SumIs at HS
      rw [hk, hsl] at HS
      have HSS := Lib.hid HS
      have O4 := Lib.hid (And.intro oa4 ob4)
      have b5 := (Below.refl w4.heap.size w4).alloc (Nat.le_refl _) (.cells #[.slice a zs.length c, .slice a2 ys.length c2] 25)
      clear HS X hk hsl oa4 ob4 hB4 b4
      go_wp2_with fail
      refine HSS.out.mono ?_
      rintro e w6 ⟨t, rfl, ot, b6⟩
      obtain ⟨pt, ct, rfl⟩ := own_value ot
      have b7 := below_step b5 b6
      have HI := Lib.hid (And.intro ((ints_own O4.out.1).later b7) ((ints_own O4.out.2).later b7))
      have HB7 := Lib.hid (below_step HB4.out b7)
      clear ot b7
      go_wp2_with fail
      refine (alive_any _).mono ?_
      rintro e w8 ⟨rfl, b8⟩
      have hB8 := below_step HB7.out b8
      go_wp2_with fail
      refine (refSame_any _ _ zs zs (by omega) (by omega) _ (HI.out.1.later b8) (HV.out.later hB8)).mono ?_
      rintro e w9 ⟨rfl, b9⟩
      rw [sameL_self]
      have hB9 := below_step hB8 b9
      go_wp2_with fail
      refine (refSame_any _ _ ys ys (by omega) (by omega) _ ((HI.out.2.later b8).later b9) (HU.out.later hB9)).mono ?_
      rintro e w10 ⟨rfl, b10⟩
      rw [sameL_self]
      go_wp2_with fail
      go_ret
      exact ⟨by first | rfl | (simp; done), below_step hB9 b10⟩
end Go.Proofs.Ytnojcgikgngniaa
