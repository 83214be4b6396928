/- The reference's products; the walk of VecProducts. -/
import Derived.Test.YtnojcgikgngniaaVecP
import Derived.Deep.QuietTactic
import Derived.BigQuiet
namespace Go.Proofs.Ytnojcgikgngniaa
open Go.RowKit
theorem refMul_q (a b q : Int) (ha : Word a) (hb : Word b) (w : World) :
    Calls Try.prog 30 #[.int .i64 a, .int .i64 b, .int .i64 q] w fun e w' => e = .returned (.int .i64 (mulq a b q)) ∧ w' = w :=
  (refMul_any a b q ha.1 ha.2 hb.1 hb.2 w).mono fun _ _ ⟨h, k⟩ => ⟨h, k.symm⟩
set_option maxHeartbeats 1000000 in
theorem refDot_any (v u : Value) (zs ys : List Int) (q : Int) (hw : ∀ z ∈ zs, Word z) (hw2 : ∀ z ∈ ys, Word z) (hm : zs.length * 8 ≤ 140737488351232) (hm2 : ys.length * 8 ≤ 140737488351232) (w : World) (hv : IntsAt .i64 w.heap.size w v zs) (hu : IntsAt .i64 w.heap.size w u ys) :
    Calls Try.prog 19 #[v, u, .int .i64 q] w fun e w' => e = .returned (.tuple #[.int .i64 (dotV zs ys q), .bool (dotB zs ys)]) ∧ Below w.heap.size w w' := by
  obtain ⟨pa, c, rfl⟩ := ints_value hv
  obtain ⟨pb, d, rfl⟩ := ints_value hu
  by_cases hl : zs.length = ys.length
  · have g1 : ((zs.length : Int) != (ys.length : Int)) = false := by simp [hl]
    have HD := Lib.hid (dot_yes hl q)
    have hl1 : zs.length ≤ ys.length := by omega
    have hl2 : ys.length ≤ zs.length := by omega
    have HV := Lib.hid hv
    have HU := Lib.hid hu
    have HW := Lib.hid hw
    have HW2 := Lib.hid hw2
    have HS0 := Lib.hid sumw_nil
    clear hl hv hu hw hw2
    rw [HD.out.1, HD.out.2]
    go_enter Try.func19, Try.ntmps19
    go_wp2_with fail
    go_loopw [8, 9] (fun t i wr => ∃ k : Nat, k ≤ zs.length ∧ i = .int .i64 k ∧ t = .int .i64 (sumw (prods (zs.take k) (ys.take k) q)) ∧ Below w.heap.size w wr) (fun _ i _ => zs.length - (intOf i).toNat)
    case atStart => exact ⟨0, Nat.zero_le _, rfl, by rw [List.take_zero, List.take_zero]; exact congrArg (Value.int .i64) HS0.out.symm, Below.refl _ _⟩
    case round =>
      obtain ⟨k, hk, rfl, rfl, hB⟩ := hrel
      by_cases hlt : k < zs.length
      · rcases HV.out.form with ⟨_, e0⟩ | ⟨b, off, c', e0, hcap, hg, hcs⟩
        · rw [e0] at hlt; simp at hlt
        cases e0
        rcases HU.out.form with ⟨_, e0⟩ | ⟨b', off', c', e0, hcap', hg', hcs'⟩
        · have h9 : ys.length = 0 := by rw [e0]; rfl
          omega
        cases e0
        have c1 := (hB.cell (p := ⟨b, off + k, none⟩) hg).trans (hcs k hlt)
        have c2 := (hB.cell (p := ⟨b', off' + k, none⟩) hg').trans (hcs' k (by omega))
        have hx := HW.out (zs[k]?.getD 0) (by rw [List.getElem?_eq_getElem hlt]; exact List.getElem_mem _)
        have hy := HW2.out (ys[k]?.getD 0) (by rw [List.getElem?_eq_getElem (show k < ys.length by omega)]; exact List.getElem_mem _)
        have i0 : (0 : Int) ≤ (k : Int) := by omega
        have i1 : (k : Int) < (ys.length : Int) := by omega
        have i2 : (k : Int) < (zs.length : Int) := by omega
        have HP := Lib.hid (prods_take zs ys q k hlt (by omega))
        clear hcs hcs'
        generalize zs[k]?.getD 0 = x at *
        generalize ys[k]?.getD 0 = y at *
        generalize prods (zs.take k) (ys.take k) q = ps at *
        have HSN := Lib.hid (sumw_snoc ps (mulq x y q))
        generalize sumw ps = t at *
        have HM := fun W => refMul_q x y q hx hy W
        generalize mulq x y q = p at *
        have HMM := Lib.hid HM
        clear HM
        go_wp2_with fail
        go_quiet ((go_at_call 30; exact Calls.quiet_of_same (HMM.out _)))
        go_wp2_with fail
        refine ⟨⟨k + 1, by omega, by go_num, by rw [HP.out, HSN.out], below_drewN hB nq⟩, ?_⟩
        show zs.length - ((k : Int) + 1).toNat < zs.length - ((k : Int)).toNat
        omega
      · have hk' : k = zs.length := by omega
        subst hk'
        rw [List.take_length, List.take_of_length_le hl2]
        go_wp2_with fail
        go_ret2
        exact ⟨rfl, hB⟩
  · have g1 : ((zs.length : Int) != (ys.length : Int)) = true := by simp; omega
    have HD := Lib.hid (dot_not hl q)
    clear hl hv hu
    rw [HD.out.1, HD.out.2]
    go_enter Try.func19, Try.ntmps19
    go_wp2_with fail
    go_ret2
    exact ⟨rfl, Below.refl _ _⟩
theorem scale_len (zs : List Int) (a q : Int) : (scaleL zs a q).length = zs.length := by unfold scaleL; simp
set_option maxHeartbeats 2000000 in
theorem walk_products (v u : Value) (zs ys : List Int) (q : Int) (hz : ∀ z ∈ zs, -9223372036854775808 ≤ z ∧ z ≤ 9223372036854775807) (hy : ∀ z ∈ ys, -9223372036854775808 ≤ z ∧ z ≤ 9223372036854775807) (w : World) (hm : zs.length ≤ maxLen) (hm2 : ys.length ≤ maxLen) (hv : IntsAt .i64 w.heap.size w v zs) (hu : IntsAt .i64 w.heap.size w u ys) :
    Calls Try.prog 5 #[v, u, .int .i64 q] w fun e w' => e = .returned (.bool true) ∧ Below w.heap.size w w' := by
  obtain ⟨a, c, rfl⟩ := ints_value hv
  obtain ⟨a2, c2, rfl⟩ := ints_value hu
  have b1 := (Below.refl w.heap.size w).alloc (Nat.le_refl _) (.cells #[.slice a zs.length c, .slice a2 ys.length c2] 25)
  have HF := Lib.hid (few_two _ _ zs ys hm hm2 w hv hu)
  have HV := Lib.hid hv
  have HU := Lib.hid hu
  have HZ := Lib.hid (show ∀ z ∈ zs, Word z from hz)
  have HY := Lib.hid (show ∀ z ∈ ys, Word z from hy)
  cases hf : fewB [zs, ys]
  · rw [hf] at HF
    clear hf hv hu hz hy
    go_enter Try.func5, Try.ntmps5
    go_wp2_with fail
    refine HF.out.mono ?_
    rintro e w1 ⟨rfl, rfl⟩
    go_wp2_with fail
    refine (alive_any _).mono ?_
    rintro e w2 ⟨rfl, b2⟩
    go_wp2_with fail
    go_ret
    exact ⟨rfl, below_step b1 b2⟩
  · have hs := (fewB_true hf).2 zs (by simp)
    have hs2 := (fewB_true hf).2 ys (by simp)
    rw [hf] at HF
    clear hf hv hu hz hy
    go_enter Try.func5, Try.ntmps5
    go_wp2_with fail
    refine HF.out.mono ?_
    rintro e w1 ⟨rfl, rfl⟩
    go_wp2_with fail
    refine (dot_any _ _ zs ys q HZ.out HY.out (by omega) (by omega) _ (HV.out.later b1) (HU.out.later b1)).mono ?_
    rintro e w2 ⟨rfl, b2⟩
    have hB2 := below_step b1 b2
    generalize hD : dotV zs ys q = D at *
    generalize hE : dotB zs ys = E at *
    have HD := Lib.hid hD
    have HE := Lib.hid hE
    clear hD hE
    go_wp2_with fail
    refine (refDot_any _ _ zs ys q HZ.out HY.out (by omega) (by omega) _ (HV.out.later hB2) (HU.out.later hB2)).mono ?_
    rintro e w3 ⟨rfl, b3⟩
    rw [HD.out, HE.out]
    have hB3 := below_step hB2 b3
    go_wp2_with fail
    refine (dot_any _ _ ys zs q HY.out HZ.out (by omega) (by omega) _ (HU.out.later hB3) (HV.out.later hB3)).mono ?_
    rintro e w4 ⟨rfl, b4⟩
    rw [dot_comm ys zs, HD.out]
    have hB4 := below_step hB3 b4
    generalize dotB ys zs = E2 at *
    clear b2 b3 b4
    have key : ∀ (A : Int), Word A → Hid (∀ (W : World), Below w.heap.size w W → Calls Try.prog 20 #[.slice a zs.length c, .int .i64 A, .int .i64 q] W (ClonedTo 2 1 zs.length ((scaleL zs A q).map (Value.int .i64)) W)) :=
      fun A hA => Lib.hid (fun W hW => scale_any _ zs A q hA HZ.out (by omega) W (HV.out.later hW))
    have key2 : ∀ (A : Int), Word A → Hid (∀ (W : World), Below w.heap.size w W → Calls Try.prog 21 #[.slice a zs.length c, .int .i64 A, .int .i64 q] W (ClonedTo 2 1 zs.length ((scaleL zs A q).map (Value.int .i64)) W)) :=
      fun A hA => Lib.hid (fun W hW => refScale_any _ zs A q hA HZ.out (by omega) W (HV.out.later hW))
    have KEY := Lib.hid key
    have KEY2 := Lib.hid key2
    clear key key2
    rcases Nat.eq_zero_or_pos ys.length with h0 | h0
    · have g1 : decide ((0 : Int) < (ys.length : Int)) = false := decide_eq_false (by omega)
      have g2 : decide (0 < ys.length) = false := decide_eq_false (by omega)
      have K1 := KEY.out 7 (by unfold Word; omega)
      have K2 := KEY2.out 7 (by unfold Word; omega)
      have hl1 := scale_len zs 7 q
      generalize scaleL zs 7 q = ss at *
      have HL1 := Lib.hid hl1
      clear h0 hl1
      go_wp2_with fail
      refine (alive_any _).mono ?_
      rintro e w5 ⟨rfl, b5⟩
      have hB5 := below_step hB4 b5
      go_wp2_with fail
      refine (K1.out _ hB5).mono ?_
      rintro e w6 ⟨t, rfl, ot, b6⟩
      obtain ⟨pt, ct, rfl⟩ := own_value ot
      have hB6 := below_step hB5 b6
      have OT := Lib.hid ot
      clear ot
      go_wp2_with fail
      refine (K2.out _ hB6).mono ?_
      rintro e w7 ⟨t2, rfl, ot2, b7⟩
      obtain ⟨pt2, ct2, rfl⟩ := own_value ot2
      have hB7 := below_step hB6 b7
      have OT2 := Lib.hid ot2
      have OT1 := Lib.hid (own_below OT.out b7)
      clear ot2
      go_wp2_with fail
      refine (refSame_any _ _ ss ss (by rw [HL1.out]; omega) (by rw [HL1.out]; omega) _ (IntsAt.of_owns HL1.out.symm OT1.out) (IntsAt.of_owns HL1.out.symm OT2.out)).mono ?_
      rintro e w8 ⟨rfl, b8⟩
      rw [sameL_self]
      go_wp2_with fail
      go_ret
      exact ⟨by first | rfl | (simp; done), below_step hB7 b8⟩
    · have g1 : decide ((0 : Int) < (ys.length : Int)) = true := decide_eq_true (by omega)
      have g2 : decide (0 < ys.length) = true := decide_eq_true (by omega)
      rcases HU.out.form with ⟨_, e0⟩ | ⟨b, off, c', e0, hcap, hg, hcs⟩
      · rw [e0] at h0; simp at h0
      cases e0
      have cy := (hB4.cell (p := ⟨b, off + 0, none⟩) hg).trans (hcs 0 h0)
      rw [Nat.add_zero] at cy
      have hx := HY.out (ys[0]?.getD 0) (by rw [List.getElem?_eq_getElem h0]; exact List.getElem_mem _)
      have i1 : (0 : Int) < (ys.length : Int) := by omega
      generalize ys[0]?.getD 0 = A at *
      have K1 := KEY.out A hx
      have K2 := KEY2.out A hx
      have hl1 := scale_len zs A q
      generalize scaleL zs A q = ss at *
      have HL1 := Lib.hid hl1
      clear h0 hl1 hcs
      go_wp2_with fail
      refine (alive_any _).mono ?_
      rintro e w5 ⟨rfl, b5⟩
      have hB5 := below_step hB4 b5
      go_wp2_with fail
      refine (K1.out _ hB5).mono ?_
      rintro e w6 ⟨t, rfl, ot, b6⟩
      obtain ⟨pt, ct, rfl⟩ := own_value ot
      have hB6 := below_step hB5 b6
      have OT := Lib.hid ot
      clear ot
      go_wp2_with fail
      refine (K2.out _ hB6).mono ?_
      rintro e w7 ⟨t2, rfl, ot2, b7⟩
      obtain ⟨pt2, ct2, rfl⟩ := own_value ot2
      have hB7 := below_step hB6 b7
      have OT2 := Lib.hid ot2
      have OT1 := Lib.hid (own_below OT.out b7)
      clear ot2
      go_wp2_with fail
      refine (refSame_any _ _ ss ss (by rw [HL1.out]; omega) (by rw [HL1.out]; omega) _ (IntsAt.of_owns HL1.out.symm OT1.out) (IntsAt.of_owns HL1.out.symm OT2.out)).mono ?_
      rintro e w8 ⟨rfl, b8⟩
      rw [sameL_self]
      go_wp2_with fail
      go_ret
      exact ⟨by first | rfl | (simp; done), below_step hB7 b8⟩
end Go.Proofs.Ytnojcgikgngniaa
