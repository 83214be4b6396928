/- The walk of VecSame. -/
import Derived.Test.YtnojcgikgngniaaVecW
namespace Go.Proofs.Ytnojcgikgngniaa
open Go.RowKit
def ones (n : Nat) : List Int := List.replicate n 1
theorem ones_get (n k : Nat) (h : k < n) : (ones n)[k]?.getD 0 = 1 := by unfold ones; simp [h]
theorem differ_inc (zs : List Int) (h : 0 < zs.length) : differ 0 zs (addL zs (ones zs.length)) = 0 := by
  have hl := addL_length zs (ones zs.length) (by simp [ones])
  have hg := addL_get zs (ones zs.length) 0 h (by simp [ones]; omega)
  have := differ_at zs (addL zs (ones zs.length)) 0 h (by omega) (by
    rw [hg, Option.getD_some, ones_get _ _ h]
    generalize zs[0]?.getD 0 = x
    unfold wrap64
    omega)
  simpa using this
theorem differ_comm (i : Int) (zs ys : List Int) : differ i zs ys = differ i ys zs := by
  induction zs generalizing i ys with
  | nil => cases ys <;> rfl
  | cons x xs ih =>
    cases ys with
    | nil => rfl
    | cons y ys =>
      simp only [differ]
      by_cases h : x = y
      · rw [if_pos h, if_pos h.symm]; exact ih _ _
      · rw [if_neg h, if_neg (fun e => h e.symm)]
set_option maxHeartbeats 2000000 in
theorem walk_same (v u : Value) (zs ys : List Int) (w : World) (hm : zs.length ≤ maxLen) (hm2 : ys.length ≤ maxLen) (hv : IntsAt .i64 w.heap.size w v zs) (hu : IntsAt .i64 w.heap.size w u ys) :
    Calls Try.prog 6 #[v, u] w fun e w' => e = .returned (.bool true) ∧ Below w.heap.size w w' := by
  obtain ⟨a, c, rfl⟩ := ints_value hv
  obtain ⟨a2, c2, rfl⟩ := ints_value hu
  have b1 := (Below.refl w.heap.size w).alloc (Nat.le_refl _) (.cells #[.slice a zs.length c, .slice a2 ys.length c2] 25)
  have HF := Lib.hid (few_two _ _ zs ys hm hm2 w hv hu)
  have HV := Lib.hid hv
  have HU := Lib.hid hu
  cases hf : fewB [zs, ys]
  · rw [hf] at HF
    clear hf hv hu
    go_enter Try.func6, Try.ntmps6
    go_wp2_with fail
    refine HF.out.mono ?_
    rintro e w1 ⟨rfl, rfl⟩
    go_wp2_with fail
    refine (alive_any _).mono ?_
    rintro e w2 ⟨rfl, b2⟩
    go_wp2_with fail
    go_ret
    exact ⟨rfl, below_step b1 b2⟩
  · have hs := (fewB_true hf).2 zs (by simp)
    have hs2 := (fewB_true hf).2 ys (by simp)
    rw [hf] at HF
    clear hf hv hu
    go_enter Try.func6, Try.ntmps6
    go_wp2_with fail
    refine HF.out.mono ?_
    rintro e w1 ⟨rfl, rfl⟩
    go_wp2_with fail
    refine (vclone_w _ zs (by omega) _ _ (Nat.le_refl _) (.inr (HV.out.later b1))).mono ?_
    rintro e w2 ⟨t, rfl, ot, b2⟩
    have hB2 := below_step b1 b2
    obtain ⟨pt, ct, rfl⟩ := own_value ot
    have OT := Lib.hid ot
    have hwz : w.heap.size ≤ (w.alloc (.cells #[.slice a zs.length c, .slice a2 ys.length c2] 25)).heap.size := by simp
    have hlow : Hid (∀ k, (Value.slice pt zs.length ct).ownBlock = some k → w.heap.size ≤ k ∧ k < w2.heap.size) := Lib.hid (fun k e => ⟨Nat.le_trans hwz (OT.out.lt k e).1, (OT.out.lt k e).2⟩)
    clear ot
    go_wp2_with fail
    refine (same_any _ _ zs ys (by omega) (by omega) _ _ _ (HV.out.later hB2) (HU.out.later hB2)).mono ?_
    rintro e w3 ⟨rfl, b3⟩
    have hB3 := below_step hB2 b3
    have OT3 := Lib.hid (own_below OT.out b3)
    generalize hsm : sameL zs ys = sm at *
    have HSM := Lib.hid hsm
    clear hsm
    go_wp2_with fail
    refine (refSame_any _ _ zs ys (by omega) (by omega) _ (HV.out.later hB3) (HU.out.later hB3)).mono ?_
    rintro e w4 ⟨rfl, b4⟩
    rw [HSM.out]
    have hB4 := below_step hB3 b4
    have OT4 := Lib.hid (own_below OT3.out b4)
    have hsm2 : (sm != sm) = false := by simp
    go_wp2_with fail
    refine (differ_any _ _ zs ys (by omega) (by omega) _ _ _ (HV.out.later hB4) (HU.out.later hB4)).mono ?_
    rintro e w5 ⟨rfl, b5⟩
    have hB5 := below_step hB4 b5
    have OT5 := Lib.hid (own_below OT4.out b5)
    generalize hd : differ 0 zs ys = d at *
    have HD := Lib.hid hd
    clear hd
    go_wp2_with fail
    refine (refDiffer_any _ _ zs ys (by omega) (by omega) _ (HV.out.later hB5) (HU.out.later hB5)).mono ?_
    rintro e w6 ⟨rfl, b6⟩
    rw [HD.out]
    have hB6 := below_step hB5 b6
    have OT6 := Lib.hid (own_below OT5.out b6)
    go_wp2_with fail
    refine (differ_any _ _ ys zs (by omega) (by omega) _ _ _ (HU.out.later hB6) (HV.out.later hB6)).mono ?_
    rintro e w7 ⟨rfl, b7⟩
    have hB7 := below_step hB6 b7
    have OT7 := Lib.hid (own_below OT6.out b7)
    rw [show differ 0 ys zs = d by rw [differ_comm]; exact HD.out]
    go_wp2_with fail
    refine (refDiffer_any _ _ zs ys (by omega) (by omega) _ (HV.out.later hB7) (HU.out.later hB7)).mono ?_
    rintro e w8 ⟨rfl, b8⟩
    rw [HD.out]
    have hB8 := below_step hB7 b8
    have OT8 := Lib.hid (own_below OT7.out b8)
    go_wp2_with fail
    refine (same_any _ _ zs zs (by omega) (by omega) _ _ _ (HV.out.later hB8) (ints_own OT8.out)).mono ?_
    rintro e w9 ⟨rfl, b9⟩
    rw [sameL_self]
    have hB9 := Lib.hid (below_step hB8 b9)
    have OT9 := Lib.hid (own_below OT8.out b9)
    have h29 : w2.heap.size ≤ w9.heap.size := by have := b3.size; have := b4.size; have := b5.size; have := b6.size; have := b7.size; have := b8.size; have := b9.size; omega
    clear b3 b4 b5 b6 b7 b8 b9 hB2 hB3 hB4 hB5 hB6 hB7 hB8
    go_wp2_with fail
    go_loopw [8, 52] (fun _ i wr => ∃ k : Nat, k ≤ zs.length ∧ i = .int .i64 k ∧ wr.ownsRow (w.alloc (.cells #[.slice a zs.length c, .slice a2 ys.length c2] 25)).heap.size 2 1 (.slice pt zs.length ct) zs.length ((addP zs (ones zs.length) k).map (Value.int .i64)) ∧ Below w.heap.size w wr) (fun _ i _ => zs.length - (intOf i).toNat)
    case atStart => exact ⟨0, Nat.zero_le _, rfl, by rw [addP_zero]; exact OT9.out, hB9.out⟩
    case round =>
      obtain ⟨k, hk, rfl, ov, hB⟩ := hrel
      have h1l : zs.length = (ones zs.length).length := by simp [ones]
      by_cases hlt : k < zs.length
      · obtain ⟨g, c1, e0, hg1, hg2⟩ := own_some ov (by omega)
        cases e0
        have cv1 := ov.cellAt k (by omega)
        have cf1 := ov.frozenAt k
        rw [List.getElem?_map, addP_get zs _ k k h1l (by omega) (by omega), if_neg (by omega)] at cv1
        simp only [Option.map_some] at cv1
        have hset := addP_set zs (ones zs.length) k h1l (by omega)
        rw [ones_get _ _ hlt] at hset
        have ost := ov.stored k (.int .i64 (wrap64 (zs[k]?.getD 0 + 1)))
        rw [List.set_map_eq, hset] at ost
        have HX := Lib.hid (And.intro ost.1 (hB.grown ost.2 hB.size (fun j e => by cases e; exact Nat.le_trans hwz hg1)))
        clear ost hset ov h1l
        generalize zs[k]?.getD 0 = x at *
        go_wp2_with fail
        refine ⟨⟨k + 1, by omega, by go_num, HX.out.1, HX.out.2⟩, ?_⟩
        show zs.length - ((k : Int) + 1).toNat < zs.length - ((k : Int)).toNat
        omega
      · have hk' : k = zs.length := by omega
        subst hk'
        rw [addP_all zs _ h1l] at ov
        have OV := Lib.hid ov
        have h2l := addL_length zs _ h1l
        have hB' := hB
        clear ov
        by_cases hz0 : zs.length = 0
        · have g1 : ((zs.length : Int) == 0) = true := by simp [hz0]
          clear h1l h2l hz0
          go_wp2_with fail
          refine (alive_any _).mono ?_
          rintro e w10 ⟨rfl, b10⟩
          go_wp2_with fail
          go_ret
          exact ⟨rfl, below_step hB' b10⟩
        · have g1 : ((zs.length : Int) == 0) = false := by simp; intro e; simp [e] at hz0
          have HINC := Lib.hid (differ_inc zs (by omega))
          have H2L := Lib.hid h2l
          clear h1l h2l hz0
          go_wp2_with fail
          refine (alive_any _).mono ?_
          rintro e w10 ⟨rfl, b10⟩
          go_wp2_with fail
          refine (differ_any _ _ zs (addL zs (ones zs.length)) (by omega) (by rw [H2L.out]; omega) _ _ _ (HV.out.later (below_step hB' b10)) ((IntsAt.of_owns H2L.out.symm OV.out).later b10)).mono ?_
          rintro e w11 ⟨rfl, b11⟩
          rw [HINC.out]
          go_wp2_with fail
          go_ret
          exact ⟨rfl, below_step (below_step hB' b10) b11⟩
end Go.Proofs.Ytnojcgikgngniaa
