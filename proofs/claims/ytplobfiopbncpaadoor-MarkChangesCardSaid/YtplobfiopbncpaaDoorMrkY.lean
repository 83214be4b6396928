/- Layer 16: MarkChanges. -/
import Derived.Test.YtplobfiopbncpaaDoorMrkW
import Derived.Deep.Cut
namespace Go.Proofs.YtplobfiopbncpaaDoor
open Go.RowKit
set_option linter.unusedVariables false
theorem ord_ne2 {x y x2 y2 : Nat} {a b a2 b2 : Int} (hx : IsF x a) (hy : IsF y b) (hx2 : IsF x2 a2) (hy2 : IsF y2 b2) (h : a ≠ a2 ∨ b ≠ b2) :
    (FloatKind.f64.format.order x x2 == some .eq && FloatKind.f64.format.order y y2 == some .eq) = false := by
  rcases h with h | h
  · rw [ord_ne hx hx2 h, Bool.false_and]
  · rw [ord_ne hy hy2 h, Bool.and_false]
theorem tmod_nat (n m : Nat) : (n : Int).tmod (m : Int) = ((n % m : Nat) : Int) := by
  rw [Int.tmod_eq_emod_of_nonneg (by omega)]; rfl
set_option maxHeartbeats 4000000 in
theorem walk_changes (v : Value) (xs : List Int) (i c : Int) (hi : 0 ≤ i ∧ i ≤ 65535) (hc : 0 ≤ c ∧ c ≤ 65535) (hm : xs.length ≤ maxLen) (w : World) (ht : Pow10 w) (hv : IntsW .i64 w.heap.size w v xs) :
    Calls Tryd.prog 8 #[v, .int .u16 i, .int .u16 c] w fun e w' => e = .returned (.bool true) ∧ Below w.heap.size w w' := by
  obtain ⟨a, cp, rfl⟩ := hv.value
  have HV := Lib.hid hv
  have HF := Lib.hid (few_any _ [xs] (by simp [maxLen]) (by simpa using hm) _ _ (rows_one (e := 22) hv))
  have HA := Lib.hid (fun W (hW : Below w.heap.size w W) => alive16_any W (ht.later hW))
  have B0 := Lib.hid ((Below.refl w.heap.size w).alloc (Nat.le_refl _) (.cells #[.slice a xs.length cp] 22))
  clear hv ht
  by_cases hf : fewB [xs] = true
  · obtain ⟨_, hlen⟩ := fewB_true hf
    have l1 : xs.length ≤ 1500 := hlen xs (by simp)
    rw [hf] at HF
    clear hlen hf hm
    by_cases hz : xs.length = 0
    · clear HV l1
      generalize xs.length = L at *
      subst hz
      go_enter Tryd.func8, Tryd.ntmps8
      go_wp2_with fail
      refine HF.out.mono ?_
      rintro e w1 ⟨rfl, rfl⟩
      clear HF
      generalize w.alloc (.cells #[.slice a 0 cp] 22) = w1 at *
      have HA6 := Lib.hid (HA.out w1 B0.out)
      go_wp2_with fail
      refine HA6.out.mono ?_
      rintro e w7 ⟨rfl, b7⟩
      have B7 := B0.out.trans (b7.mono B0.out.size)
      clear B0 HA6 HA
      go_wp2_with fail
      go_ret
      exact ⟨rfl, B7⟩
    · have g1 : ((xs.length : Int) == 0) = false := by simpa using hz
      have g2 : ¬ (xs.length : Int) = 0 := by omega
      by_cases hc0 : c = 0
      · have g3 : (c == 0) = true := by simpa using hc0
        go_enter Tryd.func8, Tryd.ntmps8
        go_wp2_with fail
        refine HF.out.mono ?_
        rintro e w1 ⟨rfl, rfl⟩
        clear HF
        generalize w.alloc (.cells #[.slice a xs.length cp] 22) = w1 at *
        have HA6 := Lib.hid (HA.out w1 B0.out)
        go_wp2_with fail
        refine HA6.out.mono ?_
        rintro e w7 ⟨rfl, b7⟩
        have B7 := B0.out.trans (b7.mono B0.out.size)
        clear B0 HA6 HA
        go_wp2_with fail
        go_ret
        exact ⟨rfl, B7⟩
      · have g3 : (c == 0) = false := by simpa using hc0
        obtain ⟨n, rfl⟩ : ∃ n : Nat, i = n := ⟨i.toNat, by omega⟩
        have hkl := Nat.mod_lt n (show 0 < xs.length by omega)
        have htm := tmod_nat n xs.length
        have HNE := Lib.hid (acc_ne xs (n % xs.length) c hkl (by omega) (by omega))
        have hset : (xs.set (n % xs.length) (wrap64 (xs[n % xs.length]?.getD 0 + c))).length = xs.length := List.length_set
        have hsm := List.set_map_eq xs (n % xs.length) (wrap64 (xs[n % xs.length]?.getD 0 + c)) .i64
        have hget : (xs.map (Value.int .i64))[n % xs.length]? = some (.int .i64 (xs[n % xs.length]?.getD 0)) := by
          rw [List.getElem?_map, List.getElem?_eq_getElem hkl]; rfl
        generalize xs[n % xs.length]?.getD 0 = x at *
        generalize n % xs.length = k at *
        have HS := Lib.hid (And.intro hset (And.intro hsm hget))
        clear hset hsm hget
        go_enter Tryd.func8, Tryd.ntmps8
        go_wp2_with fail
        refine HF.out.mono ?_
        rintro e w1 ⟨rfl, rfl⟩
        clear HF
        generalize w.alloc (.cells #[.slice a xs.length cp] 22) = w1 at *
        have HCL := Lib.hid (refClone_any _ xs (by omega) w1.heap.size w1 ((HV.out.below B0.out).grow B0.out.size))
        unfold ClonedTo at HCL
        go_wp2_with fail
        refine HCL.out.mono ?_
        rintro e w2 ⟨sv, rfl, o2, b2⟩
        obtain ⟨g, cc, rfl, hg1, hg2⟩ := own_some o2 (by omega)
        have c0 := (o2.cellAt k (by simpa using hkl)).trans HS.out.2.2
        have f0 := o2.frozenAt k
        have B2 := Lib.hid (B0.out.trans (b2.mono B0.out.size))
        have ost := o2.stored k (.int .i64 (wrap64 (x + c)))
        rw [HS.out.2.1] at ost
        have IW := Lib.hid (IntsAt.of_owns (zs := xs.set k (wrap64 (x + c))) HS.out.1.symm ost.1)
        have BX := Lib.hid (B2.out.grown ost.2 B2.out.size (fun q e => by cases e; exact Nat.le_trans B0.out.size hg1))
        have hzl := HS.out.1
        clear HCL o2 b2 ost B2 HS B0
        have i0 : (0 : Int) ≤ (k : Int) := by omega
        have i1 : (k : Int) < (xs.length : Int) := by omega
        generalize xs.set k (wrap64 (x + c)) = zs at *
        have l3 : zs.length ≤ 1500 := by omega
        go_upto_region 5 with fail
        generalize w2.setCell ⟨g, k, none⟩ (.int .i64 (wrap64 (x + c))) = w3 at *
        have HZL := Lib.hid hzl
        clear hzl
        have HA6 := Lib.hid (HA.out w3 BX.out)
        go_wp2_with fail
        refine HA6.out.mono ?_
        rintro e w4 ⟨rfl, b⟩
        have B4 := Lib.hid (BX.out.trans (b.mono BX.out.size))
        replace IW := Lib.hid (IW.out.later b)
        clear BX b HA6 HA
        have H := Lib.hid (of_any _ zs (by omega) w4 (.inr IW.out))
        go_wp2_with fail
        refine H.out.mono ?_
        rintro e w5 ⟨⟨r1, ii1, rfl, f1, f2⟩, b⟩
        have B5 := Lib.hid (B4.out.trans (b.mono B4.out.size))
        replace IW := Lib.hid (IW.out.later b)
        clear H b B4
        have H := Lib.hid (of_any _ xs (by omega) w5 ((HV.out.below B5.out).grow B5.out.size))
        go_wp2_with fail
        refine H.out.mono ?_
        rintro e w6 ⟨⟨r2, i2, rfl, f3, f4⟩, b⟩
        have B6 := Lib.hid (B5.out.trans (b.mono B5.out.size))
        replace IW := Lib.hid (IW.out.later b)
        clear H b B5
        have o1 := ord_ne2 f1 f2 f3 f4 (by rw [HZL.out]; exact HNE.out)
        clear f1 f2 f3 f4
        have H := Lib.hid (of_any _ zs (by omega) w6 (.inr IW.out))
        go_wp2_with fail
        refine H.out.mono ?_
        rintro e w7 ⟨⟨r3, i3, rfl, f1, f2⟩, b⟩
        have B7 := Lib.hid (B6.out.trans (b.mono B6.out.size))
        replace IW := Lib.hid (IW.out.later b)
        clear H b B6
        have H := Lib.hid (refOf_any _ zs (by omega) w7 (.inr IW.out))
        go_wp2_with fail
        refine H.out.mono ?_
        rintro e w8 ⟨rfl, b⟩
        have B8 := Lib.hid (B7.out.trans (b.mono B7.out.size))
        clear B7 b H IW
        have bk := acc_le zs zs.length
        have H := Lib.hid (given_any (accR zs zs.length) (accI zs zs.length) (by omega) (by omega) w8)
        clear bk
        go_wp2_with fail
        refine H.out.mono ?_
        rintro e w9 ⟨⟨r4, i4, rfl, f3, f4⟩, b⟩
        have B9 := B8.out.trans (b.mono B8.out.size)
        have o3 := ord_eq f1 f3 rfl
        have o4 := ord_eq f2 f4 rfl
        clear B8 b H f1 f2 f3 f4
        go_wp2_with fail
        go_ret
        exact ⟨by first | rfl | (simp; done), B9⟩
  · have hf2 : fewB [xs] = false := by simpa using hf
    rw [hf2] at HF
    go_enter Tryd.func8, Tryd.ntmps8
    go_wp2_with fail
    refine HF.out.mono ?_
    rintro e w1 ⟨rfl, rfl⟩
    clear HF
    generalize w.alloc (.cells #[.slice a xs.length cp] 22) = w1 at *
    have HA6 := Lib.hid (HA.out w1 B0.out)
    go_wp2_with fail
    refine HA6.out.mono ?_
    rintro e w7 ⟨rfl, b7⟩
    have B7 := B0.out.trans (b7.mono B0.out.size)
    clear B0 HA6 HA
    go_wp2_with fail
    go_ret
    exact ⟨rfl, B7⟩
end Go.Proofs.YtplobfiopbncpaaDoor
