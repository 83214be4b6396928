/- Layer 6: Inverse, and the reference's; PermInverses. -/
import Derived.Test.YtanfdajllhlcbaaPrmE
namespace Go.Proofs.Ytanfdajllhlcbaa
open Go.RowKit
set_option linter.unusedVariables false
def invL (p : List Int) : List Int := (List.range p.length).map fun (i : Nat) => placeR (i : Int) p 0
def invP (p : List Int) (k : Nat) : List Int := (List.range p.length).map fun (i : Nat) => if 0 ≤ placeR (i : Int) p 0 ∧ placeR (i : Int) p 0 < (k : Int) then placeR (i : Int) p 0 else 0
theorem invL_length (p : List Int) : (invL p).length = p.length := by simp [invL]
theorem invP_length (p : List Int) (k : Nat) : (invP p k).length = p.length := by simp [invP]
theorem invP_zero (p : List Int) : (invP p 0).map (Value.int .i64) = List.replicate (p.length * 1) (.int .i64 0) := by
  unfold invP
  apply List.ext_getElem
  · simp
  · intro i h1 h2
    simp only [List.getElem_map, List.getElem_range, List.getElem_replicate]
    rw [if_neg (by omega)]
theorem place_valid {p : List Int} (h : validB p = true) {i : Nat} (hi : i < p.length) : ∃ r : Nat, ∃ hr : r < p.length, placeR (i : Int) p 0 = (r : Int) ∧ p[r] = (i : Int) := by
  have h1 := (ref_valid p).trans h
  have h2 := List.all_eq_true.1 h1 i (List.mem_range.2 hi)
  have h2 := of_decide_eq_true h2
  rcases placeR_range (i : Int) p 0 with ⟨h3, _⟩ | ⟨j, hj, h3, h4⟩
  · omega
  · exact ⟨j, hj, by rw [h3]; simp, h4⟩
theorem invP_all {p : List Int} (h : validB p = true) : invP p p.length = invL p := by
  unfold invP invL
  apply List.map_congr_left
  intro i hi
  obtain ⟨r, hr, e, _⟩ := place_valid h (List.mem_range.1 hi)
  rw [if_pos (by omega)]
theorem invP_set {p : List Int} (h : validB p = true) {k x : Nat} (hk : k < p.length) (hx : p[k]?.getD 0 = (x : Int)) : ((invP p k).map (Value.int .i64)).set x (.int .i64 (k : Int)) = (invP p (k + 1)).map (Value.int .i64) := by
  rw [List.getElem?_eq_getElem hk, Option.getD_some] at hx
  have hxl : x < p.length := by have := ((valid_iff p).1 h).1 k hk; omega
  unfold invP
  apply List.ext_getElem
  · simp
  · intro i h1 h2
    have hi : i < p.length := by simpa using h2
    rw [List.getElem_set]
    simp only [List.getElem_map, List.getElem_range]
    obtain ⟨r, hr, e, er⟩ := place_valid h hi
    rw [e]
    by_cases e1 : x = i
    · subst e1
      rw [if_pos rfl]
      have := ((valid_iff p).1 h).2 r k hr hk (er.trans hx.symm)
      subst this
      rw [if_pos (by omega)]
    · rw [if_neg e1]
      have hne : r ≠ k := by
        rintro rfl
        rw [er] at hx
        omega
      by_cases h3 : r < k
      · rw [if_pos (by omega), if_pos (by omega)]
      · rw [if_neg (by omega), if_neg (by omega)]
theorem invL_get (p : List Int) (i : Nat) (hi : i < (invL p).length) : (invL p)[i] = placeR (i : Int) p 0 := by simp [invL]
theorem inv_valid {p : List Int} (h : validB p = true) : validB (invL p) = true := by
  rw [valid_iff]
  refine ⟨fun i hi => ?_, fun i j hi hj he => ?_⟩
  · have hi' : i < p.length := by rw [invL_length] at hi; exact hi
    obtain ⟨r, hr, e, _⟩ := place_valid h hi'
    rw [invL_get, e, invL_length]
    omega
  · have hi' : i < p.length := by rw [invL_length] at hi; exact hi
    have hj' : j < p.length := by rw [invL_length] at hj; exact hj
    obtain ⟨r, hr, e, er⟩ := place_valid h hi'
    obtain ⟨r', hr', e', er'⟩ := place_valid h hj'
    rw [invL_get, invL_get, e, e'] at he
    have : r = r' := by omega
    subst this
    rw [er] at er'
    omega
theorem comp_inv {p : List Int} (h : validB p = true) : compL p (invL p) = idL p.length := by
  unfold compL idL
  rw [invL_length]
  apply List.map_congr_left
  intro i hi
  have hi' := List.mem_range.1 hi
  obtain ⟨r, hr, e, er⟩ := place_valid h hi'
  have hl : i < (invL p).length := by rw [invL_length]; exact hi'
  have e1 : (invL p)[i]?.getD 0 = (r : Int) := by rw [List.getElem?_eq_getElem hl, Option.getD_some, invL_get, e]
  unfold compF
  rw [e1, Int.toNat_natCast, List.getElem?_eq_getElem hr, Option.getD_some, er]
theorem invL_in {p : List Int} (hm : p.length ≤ 1048576) : InW (invL p) := by
  intro z hz
  unfold invL at hz
  rw [List.mem_map] at hz
  obtain ⟨i, hi, rfl⟩ := hz
  rcases placeR_range (i : Int) p 0 with ⟨h3, _⟩ | ⟨j, hj, h3, h4⟩ <;> omega
set_option maxHeartbeats 2000000 in
theorem inverse_any (v : Value) (p : List Int) (hp : p.length ≤ 1048576) (zp : InW p) (w : World) (hv : IntsAt .i64 w.heap.size w v p) :
    Calls Try.prog 22 #[v] w (ListOr (validB p) (invL p) w) := by
  obtain ⟨a, c, rfl⟩ := ints_value hv
  have HP := Lib.hid (fun W h => valid_any (.slice a p.length c) p hp zp W h)
  have HV := Lib.hid hv
  clear hv zp
  cases h1 : validB p
  · rw [h1] at HP
    clear h1
    go_enter Try.func22, Try.ntmps22
    go_wp2_with fail
    refine (HP.out _ HV.out).mono ?_
    rintro e w1 ⟨rfl, b1⟩
    have B1 := Lib.hid b1
    clear b1
    go_wp2_with fail
    go_ret2
    exact ⟨rfl, B1.out⟩
  · rw [h1] at HP
    have HS := Lib.hid (fun k x hk hx => invP_set (p := p) h1 (k := k) (x := x) hk hx)
    have HA := Lib.hid (invP_all h1)
    have HV2 := Lib.hid (fun k hk => valid_at h1 (k := k) hk)
    clear h1
    have hmk := run_make_elem elemI .i64 .i64 p.length (by omega) (by omega)
    go_enter Try.func22, Try.ntmps22
    go_wp2_with fail
    refine (HP.out _ HV.out).mono ?_
    rintro e w2 ⟨rfl, b1⟩
    have B2 := Lib.hid b1
    clear b1 HP
    have hs2 : w.heap.size ≤ w2.heap.size := B2.out.size
    have ho := owns_made (w := w2) (base := w.heap.size) (e := 3) (size := 1) (n := p.length) (u := .int .i64 0) (z := #[.int .i64 0]) rfl (by decide) hs2 (by unfold maxLen; omega)
    rw [← invP_zero p, Nat.mul_one] at ho
    have HR := Lib.hid ho
    have AL := Lib.hid (below_alloc (o := .cells (madeCells #[.int .i64 0] p.length) 3) B2.out)
    clear ho
    go_wp2_with fail
    clear hmk
    generalize w2.heap.size = M at *
    generalize w2.alloc (.cells (madeCells #[.int .i64 0] p.length) 3) = w3 at *
    go_loopw [5, 6, 15] (fun _ _ i wr => ∃ k : Nat, k ≤ p.length ∧ i = .int .i64 k ∧ Hid (wr.ownsRow w.heap.size 3 1 (.slice (some ⟨M, 0, none⟩) p.length p.length) p.length ((invP p k).map (Value.int .i64))) ∧ Hid (Below w.heap.size w wr)) (fun _ _ i _ => p.length - (intOf i).toNat)
    case atStart => exact ⟨0, Nat.zero_le _, rfl, HR, AL⟩
    case round =>
      obtain ⟨k, hk, rfl, HR, HB⟩ := hrel
      by_cases hlt : k < p.length
      · obtain ⟨x, hx, hxl⟩ := HV2.out k hlt
        rcases HV.out.form with ⟨_, e0⟩ | ⟨b, off, cap, e0, hc, hb, hcs⟩
        · rw [e0] at hlt; cases hlt
        cases e0
        have cq := (HB.out.cell (p := ⟨b, off + k, none⟩) hb).trans (hcs k hlt)
        rw [hx] at cq
        have hr := HR.out.cellAt x (by omega)
        have hf := HR.out.frozenAt x
        rw [List.getElem?_map, List.getElem?_eq_getElem (by rw [invP_length]; exact hxl), Option.map_some] at hr
        have st := HR.out.stored x (.int .i64 (k : Int))
        rw [HS.out k x hlt hx] at st
        have HR2 := Lib.hid st.1
        have HB2 := Lib.hid (HB.out.grown st.2 HB.out.size (fun j e => by cases e; exact hs2))
        have hbl := World.block_lt_of_cell? _ _ cq
        have hrl := World.block_lt_of_cell? _ _ hr
        clear st hcs hx
        generalize (invP p k)[x]'(by rw [invP_length]; exact hxl) = y0 at *
        go_wp2_with fail
        go_roundw
        case rel => exact ⟨k + 1, by omega, by go_num, HR2, HB2⟩
        case measure => simp [intOf]; omega
      · have hk' : k = p.length := by omega
        subst hk'
        have HX := Lib.hid (HA.out ▸ HR.out)
        go_wp2_with fail
        go_ret2
        exact ⟨_, rfl, by rw [invL_length]; exact HX.out, HB.out⟩
set_option maxHeartbeats 2000000 in
theorem refInverse_any (v : Value) (p : List Int) (hp : p.length ≤ 1048576) (w : World) (hv : IntsAt .i64 w.heap.size w v p) :
    Calls Try.prog 23 #[v] w (ListOr (validB p) (invL p) w) := by
  obtain ⟨a, c, rfl⟩ := ints_value hv
  have HP := Lib.hid (fun W h => refValid_any (.slice a p.length c) p hp W h)
  have HV := Lib.hid hv
  clear hv
  cases h1 : validB p
  · rw [h1] at HP
    clear h1
    go_enter Try.func23, Try.ntmps23
    go_wp2_with fail
    refine (HP.out _ HV.out).mono ?_
    rintro e w1 ⟨rfl, rfl⟩
    go_wp2_with fail
    go_ret2
    exact ⟨rfl, Below.refl _ _⟩
  · rw [h1] at HP
    clear h1
    go_enter Try.func23, Try.ntmps23
    go_wp2_with fail
    refine (HP.out _ HV.out).mono ?_
    rintro e w1 ⟨rfl, rfl⟩
    clear HP
    have HN := Lib.hid (World.ownsRow_nil w w.heap.size 3 1)
    have B0 := Lib.hid (Below.refl w.heap.size w)
    go_wp2_with fail
    go_loopw [4, 5] (fun l i wr => ∃ k : Nat, k ≤ p.length ∧ i = .int .i64 k ∧ Hid (wr.ownsRow w.heap.size 3 1 l k (((List.range k).map fun (i : Nat) => placeR (i : Int) p 0).map (Value.int .i64))) ∧ Hid (Below w.heap.size w wr)) (fun _ i _ => p.length - (intOf i).toNat)
    case atStart => exact ⟨0, Nat.zero_le _, rfl, HN, B0⟩
    case round =>
      obtain ⟨k, hk, rfl, HR, HB⟩ := hrel
      by_cases hlt : k < p.length
      · have HV3 := Lib.hid ((HV.out.below HB.out).grow HB.out.size)
        have HC := Lib.hid (place_any _ p hp k _ HV3.out)
        have HE := Lib.hid (range_snoc (fun (i : Nat) => placeR (i : Int) p 0) k)
        generalize hy : placeR (k : Int) p 0 = y at HC HE
        clear hy
        go_wp2_with fail
        refine HC.out.mono ?_
        rintro e w5 ⟨rfl, rfl⟩
        go_wp2_with (at_builtin; refine append_one elemI rfl _ _ rfl rfl rfl HR.out rfl ?_ ?_ ?_ ?_ ?_; (simp [Value.oneCell']); (unfold maxLen; omega); omega; (exact HB.out.size); intro v' w' ho' hg'; have HB2 := Lib.hid (below_appended HB.out HR.out (show wr.grownBy w' _ from hg') (Nat.le_refl _) HB.out.size); clear hg'; have HR2 := Lib.hid ho'; clear ho')
        go_roundw
        case rel => exact ⟨k + 1, by omega, by go_num, Lib.hid (by rw [HE.out]; exact HR2.out), HB2⟩
        case measure => simp [intOf]; omega
      · have hk' : k = p.length := by omega
        subst hk'
        go_wp2_with fail
        go_ret2
        refine ⟨_, rfl, ?_, HB.out⟩
        rw [invL_length]
        exact HR.out
theorem valid_nil : validB [] = true := rfl
theorem bad_some {p : List Int} (h : validB p = false) : 0 < p.length := by
  rcases Nat.eq_zero_or_pos p.length with h0 | h0
  · rw [List.length_eq_zero_iff.1 h0] at h; cases h
  · exact h0
theorem okC_inv {p : List Int} (h : validB p = true) : okC p (invL p) = true := by
  unfold okC
  rw [h, inv_valid h, show decide (p.length = (invL p).length) = true by simp [invL_length]]; rfl
theorem okC_nil {p : List Int} (h : validB p = false) : okC p [] = false := by
  unfold okC
  rw [h]; simp
set_option maxHeartbeats 2000000 in
theorem walk_inverses (v : Value) (p : List Int) (zp : InW p) (w : World) (hp : p.length ≤ maxLen) (hv : IntsAt .i64 w.heap.size w v p) :
    Calls Try.prog 5 #[v] w fun e w' => e = .returned (.bool true) ∧ Below w.heap.size w w' := by
  obtain ⟨a, c, rfl⟩ := ints_value hv
  unfold maxLen at hp
  by_cases h1 : (200 : Int) < p.length
  · clear hv
    go_enter Try.func5, Try.ntmps5
    go_wp2_with fail
    refine (alive_any _).mono ?_
    rintro e w1 ⟨rfl, b1⟩
    go_wp2_with fail
    go_ret
    exact ⟨rfl, b1⟩
  · have hp20 : p.length ≤ 1048576 := by omega
    have HV := Lib.hid hv
    have ZP := Lib.hid zp
    clear hv zp hp
    cases hval : validB p
    · have E1 := Lib.hid (fun W h => inverse_any (.slice a p.length c) p hp20 ZP.out W h)
      have E2 := Lib.hid (fun W h => refInverse_any (.slice a p.length c) p hp20 W h)
      have E3 := Lib.hid (fun W h => valid_any (.slice a p.length c) p hp20 ZP.out W h)
      have E4 := Lib.hid (fun W h k => compose_any (.slice a p.length c) (.slice none 0 0) p [] hp20 (by decide) ZP.out (fun z hz => by cases hz) W h k)
      rw [hval] at E1 E2 E3
      rw [okC_nil hval] at E4
      have hp1 : (0 : Int) < p.length := by have := bad_some hval; omega
      clear hval
      go_enter Try.func5, Try.ntmps5
      go_wp2_with fail
      refine (E1.out _ HV.out).mono ?_
      intro e w1 h
      obtain ⟨rfl, b1⟩ := h
      have B1 := Lib.hid b1
      have V1 := Lib.hid (HV.out.later b1)
      clear b1
      go_wp2_with fail
      refine (E2.out _ V1.out).mono ?_
      intro e w2 h
      obtain ⟨rfl, b2⟩ := h
      have B2 := Lib.hid (below_step B1.out b2)
      have V2 := Lib.hid (V1.out.later b2)
      have N2 := Lib.hid (IntsAt.nil (q := .i64) (n₀ := w2.heap.size) (w := w2))
      clear b2
      go_wp2_with fail
      refine (equal_same _ _ [] (by decide) _ _ _ N2.out N2.out).mono ?_
      rintro e w3 ⟨rfl, b3⟩
      have B3 := Lib.hid (below_step B2.out b3)
      have V3 := Lib.hid (V2.out.later b3)
      clear b3
      go_wp2_with fail
      refine (E3.out _ V3.out).mono ?_
      rintro e w4 ⟨rfl, b4⟩
      have B4 := Lib.hid (below_step B3.out b4)
      have V4 := Lib.hid (V3.out.later b4)
      have N4 := Lib.hid (IntsAt.nil (q := .i64) (n₀ := w4.heap.size) (w := w4))
      clear b4
      go_wp2_with fail
      refine (E4.out _ V4.out N4.out).mono ?_
      intro e w5 h
      obtain ⟨rfl, b5⟩ := h
      have B5 := Lib.hid (below_step B4.out b5)
      clear b5
      go_wp2_with fail
      refine (alive_any _).mono ?_
      rintro e w6 ⟨rfl, b6⟩
      have B6 := Lib.hid (below_step B5.out b6)
      clear b6
      go_wp2_with fail
      go_ret
      exact ⟨rfl, B6.out⟩
    · have E1 := Lib.hid (fun W h => inverse_any (.slice a p.length c) p hp20 ZP.out W h)
      have E2 := Lib.hid (fun W h => refInverse_any (.slice a p.length c) p hp20 W h)
      have E3 := Lib.hid (fun W h => valid_any (.slice a p.length c) p hp20 ZP.out W h)
      have E4 := Lib.hid (fun u W h k => compose_any (.slice a p.length c) u p (invL p) hp20 (by rw [invL_length]; exact hp20) ZP.out (invL_in hp20) W h k)
      rw [hval] at E1 E2 E3
      rw [okC_inv hval, comp_inv hval] at E4
      clear hval
      have HL := Lib.hid (invL_length p)
      go_enter Try.func5, Try.ntmps5
      go_wp2_with fail
      refine (E1.out _ HV.out).mono ?_
      intro e w1 h
      obtain ⟨v1, rfl, o1, b1⟩ := h
      have Q1 := Lib.hid (ints_own o1)
      obtain ⟨a1, c1, rfl⟩ := own_value o1
      have B1 := Lib.hid b1
      have V1 := Lib.hid (HV.out.later b1)
      clear b1 o1
      go_wp2_with fail
      refine (E2.out _ V1.out).mono ?_
      intro e w2 h
      obtain ⟨v2, rfl, o2, b2⟩ := h
      have R2 := Lib.hid (ints_own o2)
      obtain ⟨a2, c2, rfl⟩ := own_value o2
      have B2 := Lib.hid (below_step B1.out b2)
      have V2 := Lib.hid (V1.out.later b2)
      have Q2 := Lib.hid (Q1.out.later b2)
      clear b2 o2
      go_wp2_with fail
      refine (equal_same _ _ (invL p) (by rw [HL.out]; omega) _ _ _ Q2.out R2.out).mono ?_
      rintro e w3 ⟨rfl, b3⟩
      have B3 := Lib.hid (below_step B2.out b3)
      have V3 := Lib.hid (V2.out.later b3)
      have Q3 := Lib.hid (Q2.out.later b3)
      clear b3
      go_wp2_with fail
      refine (E3.out _ V3.out).mono ?_
      rintro e w4 ⟨rfl, b4⟩
      have B4 := Lib.hid (below_step B3.out b4)
      have V4 := Lib.hid (V3.out.later b4)
      have Q4 := Lib.hid (Q3.out.later b4)
      clear b4
      go_wp2_with fail
      refine (E4.out _ _ V4.out Q4.out).mono ?_
      intro e w5 h
      obtain ⟨v5, rfl, o5, b5⟩ := h
      rw [idL_length] at o5
      have I5 := Lib.hid (IntsAt.of_owns (q := .i64) (zs := idL p.length) (idL_length _).symm o5)
      obtain ⟨a5, c5, rfl⟩ := own_value o5
      have B5 := Lib.hid (below_step B4.out b5)
      clear b5 o5 E1 E2 E3 E4
      go_wp2_with fail
      go_loopw [9, 10, 60] (fun _ _ i wr => ∃ k : Nat, k ≤ p.length ∧ i = .int .i64 k ∧ wr = w5) (fun _ _ i _ => p.length - (intOf i).toNat)
      case atStart => exact ⟨0, Nat.zero_le _, rfl, rfl⟩
      case round =>
        obtain ⟨k, hk, rfl, rfl⟩ := hrel
        by_cases hlt : k < p.length
        · have hil : k < (idL p.length).length := by rw [idL_length]; exact hlt
          rcases I5.out.form with ⟨_, e0⟩ | ⟨b, off, cap, e0, hc, hb, hcs⟩
          · rw [e0] at hil; cases hil
          rw [idL_length] at e0
          cases e0
          have cq := hcs k hil
          rw [List.getElem?_eq_getElem hil, Option.getD_some, idL_get] at cq
          have hbl := World.block_lt_of_cell? _ _ cq
          clear hcs hil
          go_wp2_with fail
          go_roundw
          case rel => exact ⟨k + 1, by omega, by go_num, by trivial⟩
          case measure => simp [intOf]; omega
        · have hk' : k = p.length := by omega
          subst hk'
          go_wp2_with fail
          refine (alive_any _).mono ?_
          rintro e w6 ⟨rfl, b6⟩
          have B6 := Lib.hid (below_step B5.out b6)
          clear b6
          go_wp2_with fail
          go_ret
          exact ⟨by first | rfl | (simp; done), B6.out⟩
end Go.Proofs.Ytanfdajllhlcbaa
