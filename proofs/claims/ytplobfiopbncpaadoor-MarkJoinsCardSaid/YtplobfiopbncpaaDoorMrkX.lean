/- Layer 16: MarkJoins. -/
import Derived.Test.YtplobfiopbncpaaDoorMrkW
import Derived.Deep.Cut
namespace Go.Proofs.YtplobfiopbncpaaDoor
open Go.RowKit
set_option linter.unusedVariables false
set_option maxHeartbeats 4000000 in
theorem walk_joins (v u : Value) (xs ys : List Int) (hm : xs.length ≤ maxLen) (hm2 : ys.length ≤ maxLen) (w : World) (ht : Pow10 w) (hv : IntsW .i64 w.heap.size w v xs) (hu : IntsW .i64 w.heap.size w u ys) :
    Calls Tryd.prog 5 #[v, u] w fun e w' => e = .returned (.bool true) ∧ Below w.heap.size w w' := by
  obtain ⟨a, c, rfl⟩ := hv.value
  obtain ⟨a2, c2, rfl⟩ := hu.value
  have HV := Lib.hid hv
  have HU := Lib.hid hu
  have HF := Lib.hid (few_any _ [xs, ys] (by simp [maxLen]) (by simpa using ⟨hm, hm2⟩) _ _ (rows_two (e := 22) hv hu))
  have HA := Lib.hid (fun W (hW : Below w.heap.size w W) => alive16_any W (ht.later hW))
  have B0 := Lib.hid ((Below.refl w.heap.size w).alloc (Nat.le_refl _) (.cells #[.slice a xs.length c, .slice a2 ys.length c2] 22))
  clear hv hu ht hm hm2
  by_cases hf : fewB [xs, ys] = true
  · obtain ⟨_, hlen⟩ := fewB_true hf
    have l1 : xs.length ≤ 1500 := hlen xs (by simp)
    have l2 : ys.length ≤ 1500 := hlen ys (by simp)
    rw [hf] at HF
    have bk1 := acc_le xs xs.length
    have bk2 := acc_le ys ys.length
    have bk3 := acc_le (xs ++ ys) (xs ++ ys).length
    have hj := acc_append xs ys ys.length
    rw [← List.length_append] at hj
    have lb : (xs ++ ys).length = xs.length + ys.length := List.length_append
    have HBK := Lib.hid (And.intro bk1 (And.intro bk2 bk3))
    have HJ := Lib.hid hj
    have LB := Lib.hid lb
    clear hlen hf bk1 bk2 bk3 hj lb
    go_enter Tryd.func5, Tryd.ntmps5
    go_wp2_with fail
    refine HF.out.mono ?_
    rintro e w1 ⟨rfl, rfl⟩
    clear HF
    generalize w.alloc (.cells #[.slice a xs.length c, .slice a2 ys.length c2] 22) = w1 at *
    have HCL := Lib.hid (refClone_any _ xs (by omega) w1.heap.size w1 ((HV.out.below B0.out).grow B0.out.size))
    unfold ClonedTo at HCL
    go_wp2_with fail
    refine HCL.out.mono ?_
    rintro e w2 ⟨sv, rfl, o2, b2⟩
    have O2 := Lib.hid o2
    have B2 := Lib.hid (B0.out.trans (b2.mono B0.out.size))
    have SR := Lib.hid ((HU.out.below B2.out).src.imp_left (fun h => And.intro h.1 (show ys.map (Value.int .i64) = [] by rw [h.2]; rfl)))
    have HS2 := Lib.hid b2.size
    clear HCL o2 b2
    go_upto_region 4 with (at_builtin; refine append_list elemV rfl _ _ rfl rfl rfl O2.out (by simp) SR.out ints_one ?_ ?_ HS2.out ?_; (unfold maxLen; omega); omega; intro v' w3 ho' hg'; have O3 := Lib.hid ho'; have B3 := Lib.hid (B2.out.grown hg' B2.out.size (fun q e => Nat.le_trans B0.out.size (O2.out.lt q e).1)); clear ho' hg')
    rw [← List.map_append] at O3
    have lb := LB.out
    obtain ⟨bk1, bk2, bk3⟩ := HBK.out
    have IW := Lib.hid (IntsAt.of_owns (zs := xs ++ ys) lb.symm O3.out)
    have l3 : (xs ++ ys).length ≤ 3000 := by omega
    clear O2 O3 SR B2 HS2 lb LB HBK
    generalize xs ++ ys = zs at *
    have H4 := Lib.hid (of_any _ xs (by omega) w3 ((HV.out.below B3.out).grow B3.out.size))
    go_wp2_with fail
    refine H4.out.mono ?_
    rintro e w4 ⟨⟨re, im, rfl, f1, f2⟩, b4⟩
    have B4 := Lib.hid (B3.out.trans (b4.mono B3.out.size))
    have IW4 := Lib.hid (IW.out.later b4)
    clear B3 b4 H4 IW
    have H5 := Lib.hid (of_any _ ys (by omega) w4 ((HU.out.below B4.out).grow B4.out.size))
    go_wp2_with fail
    refine H5.out.mono ?_
    rintro e w5 ⟨⟨re2, im2, rfl, f3, f4⟩, b5⟩
    have B5 := Lib.hid (B4.out.trans (b5.mono B4.out.size))
    have IW5 := Lib.hid (IW4.out.later b5)
    clear B4 b5 H5 IW4
    have H6 := Lib.hid (join_any re im re2 im2 _ _ _ _ (xs.length : Int) f1 f2 f3 f4 (by omega) (by omega) (by omega) (by omega) (by omega) w5)
    rw [← HJ.out.1, ← HJ.out.2] at H6
    clear f1 f2 f3 f4 HJ
    go_wp2_with fail
    refine H6.out.mono ?_
    rintro e w6 ⟨⟨rz, iz, rfl, f1, f2⟩, b6⟩
    have B6 := Lib.hid (B5.out.trans (b6.mono B5.out.size))
    have IW6 := Lib.hid (IW5.out.later b6)
    have HA6 := Lib.hid (HA.out w6 B6.out)
    clear B5 b6 H6 IW5 HA
    go_wp2_with fail
    refine HA6.out.mono ?_
    rintro e w7 ⟨rfl, b7⟩
    have B7 := Lib.hid (B6.out.trans (b7.mono B6.out.size))
    have IW7 := Lib.hid (IW6.out.later b7)
    clear B6 b7 HA6 IW6
    have H8 := Lib.hid (of_any _ zs (by omega) w7 (.inr IW7.out))
    go_wp2_with fail
    refine H8.out.mono ?_
    rintro e w8 ⟨⟨rb, ib, rfl, f3, f4⟩, b8⟩
    have B8 := Lib.hid (B7.out.trans (b8.mono B7.out.size))
    have IW8 := Lib.hid (IW7.out.later b8)
    have o1 := ord_eq f1 f3 rfl
    have o2 := ord_eq f2 f4 rfl
    clear B7 b8 H8 IW7 f3 f4
    have H9 := Lib.hid (refOf_any _ zs (by omega) w8 (.inr IW8.out))
    go_wp2_with fail
    refine H9.out.mono ?_
    rintro e w9 ⟨rfl, b9⟩
    have B9 := Lib.hid (B8.out.trans (b9.mono B8.out.size))
    clear B8 b9 H9 IW8
    have H10 := Lib.hid (given_any (accR zs zs.length) (accI zs zs.length) (by omega) (by omega) w9)
    go_wp2_with fail
    refine H10.out.mono ?_
    rintro e w10 ⟨⟨rg, ig, rfl, f3, f4⟩, b10⟩
    have B10 := B9.out.trans (b10.mono B9.out.size)
    have o3 := ord_eq f1 f3 rfl
    have o4 := ord_eq f2 f4 rfl
    clear B9 b10 H10 f1 f2 f3 f4
    go_wp2_with fail
    go_ret
    exact ⟨by first | rfl | (simp; done), B10⟩
  · have hf2 : fewB [xs, ys] = false := by simpa using hf
    rw [hf2] at HF
    go_enter Tryd.func5, Tryd.ntmps5
    go_wp2_with fail
    refine HF.out.mono ?_
    rintro e w1 ⟨rfl, rfl⟩
    clear HF
    generalize w.alloc (.cells #[.slice a xs.length c, .slice a2 ys.length c2] 22) = w1 at *
    have HA6 := Lib.hid (HA.out w1 B0.out)
    go_wp2_with fail
    refine HA6.out.mono ?_
    rintro e w7 ⟨rfl, b7⟩
    have B7 := B0.out.trans (b7.mono B0.out.size)
    clear B0 HA6 HA
    go_wp2_with fail
    go_ret
    exact ⟨rfl, B7⟩
end Go.Proofs.YtplobfiopbncpaaDoor
