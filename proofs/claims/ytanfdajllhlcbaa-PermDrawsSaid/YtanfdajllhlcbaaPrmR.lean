/- Layer 6: the reference's Draws, PermDraws. -/
import Derived.Test.YtanfdajllhlcbaaPrmQ
import Derived.BigQuiet
import Derived.Deep.Cut
namespace Go.Proofs.Ytanfdajllhlcbaa
open Go.RowKit
set_option linter.unusedVariables false
theorem set_swap (L : List Int) (i j : Nat) (x y : Int) (hx : L[j]? = some x) (hy : L[i]? = some y) : ((L.map (Value.int .i64)).set j (.int .i64 y)).set i (.int .i64 x) = (swapL L i j).map (Value.int .i64) := by
  unfold swapL
  rw [hx, hy, Option.getD_some, Option.getD_some, List.map_set, List.map_set]
  by_cases e : j = i
  · subst e
    rw [hx] at hy
    cases hy
    rfl
  · exact List.set_comm _ _ e
set_option maxHeartbeats 1000000 in
theorem equalU_same (v u : Value) (zs : List Int) (hm : zs.length ≤ 1048576) (n₁ n₂ : Nat) (w : World) (hv : IntsAt .u64 n₁ w v zs) (hu : IntsAt .u64 n₂ w u zs) :
    Calls Try.prog 21 #[v, u] w fun e w' => e = .returned (.bool true) ∧ Below w.heap.size w w' := by
  by_cases hz : zs = []
  · subst hz
    obtain ⟨a, cap, rfl⟩ : ∃ a cap, v = .slice a 0 cap := by rcases hv.form with ⟨rfl, _⟩ | ⟨b, off, cap, rfl, _⟩ <;> exact ⟨_, _, rfl⟩
    obtain ⟨a', cap', rfl⟩ : ∃ a cap, u = .slice a 0 cap := by rcases hu.form with ⟨rfl, _⟩ | ⟨b, off, cap, rfl, _⟩ <;> exact ⟨_, _, rfl⟩
    clear hv hu hm
    go_enter Try.func21, Try.ntmps21
    go_wp2
    go_loop [13] (fun i => i = .int .i64 0) (fun _ => 0)
    case atStart => exact rfl
    case round =>
      obtain rfl := hrel
      go_wp2
      go_ret
      exact ⟨rfl, Below.refl _ _⟩
  · have hp : 0 < zs.length := List.length_pos_iff.2 hz
    rcases hv.form with ⟨_, h⟩ | ⟨b, off, cap, rfl, _, _, hc⟩
    · exact absurd h hz
    rcases hu.form with ⟨_, h⟩ | ⟨b', off', cap', rfl, _, _, hc'⟩
    · exact absurd h hz
    clear hv hu hz
    go_enter Try.func21, Try.ntmps21
    go_wp2
    go_loopw [5, 13] (fun _ i wr => ∃ k q : Nat, k ≤ zs.length ∧ i = .int .i64 k ∧ wr = w.drewN q) (fun _ i _ => zs.length - (intOf i).toNat)
    case atStart => exact ⟨0, 0, Nat.zero_le _, rfl, rfl⟩
    case round =>
      obtain ⟨k, q, hk, rfl, rfl⟩ := hrel
      by_cases hlt : k < zs.length
      · have h0 := hc k hlt
        have h0' := hc' k hlt
        have hl1 := World.block_lt_of_cell? _ _ h0
        have hl2 := World.block_lt_of_cell? _ _ h0'
        clear hc hc'
        generalize zs[k]?.getD 0 = lo at h0 h0'
        go_wp2
        go_quiet (fail)
        go_wp2
        go_roundw
        case rel => exact ⟨k + 1, _, by omega, by go_num, rfl⟩
        case measure => simp [intOf]; omega
      · have hk' : k = zs.length := by omega
        subst hk'
        clear hc hc'
        go_wp2
        go_ret
        exact ⟨rfl, below_drewN (Below.refl _ _) _⟩
set_option maxHeartbeats 4000000 in
theorem refDraws_any (v : Value) (p : List Int) (hp : p.length ≤ 1048576) (w : World) (hv : IntsAt .i64 w.heap.size w v p) :
    Calls Try.prog 20 #[v] w (DrawsOk p w) := by
  obtain ⟨a, c, rfl⟩ := ints_value hv
  have HP := Lib.hid (fun W h => refValid_any (.slice a p.length c) p hp W h)
  have HV := Lib.hid hv
  clear hv
  unfold DrawsOk
  cases h1 : validB p
  · rw [h1] at HP
    clear h1
    go_enter Try.func20, Try.ntmps20
    go_wp2_with fail
    refine (HP.out _ HV.out).mono ?_
    rintro e w1 ⟨rfl, rfl⟩
    go_wp2_with fail
    go_ret2
    exact ⟨_, rfl, World.ownsRow_nil _ _ _ _, Below.refl _ _⟩
  · rw [h1] at HP
    have HVB := Lib.hid h1
    clear h1
    go_enter Try.func20, Try.ntmps20
    go_wp2_with fail
    refine (HP.out _ HV.out).mono ?_
    rintro e w1 ⟨rfl, rfl⟩
    clear HP
    have HR0 := Lib.hid (show w.ownsRow w.heap.size 3 1 (.slice none 0 0) 0 ((idL 0).map (Value.int .i64)) from World.ownsRow_nil _ _ _ _)
    have HB0 := Lib.hid (Below.refl w.heap.size w)
    go_wp2_with fail
    go_loopw [4, 5] (fun l i wr => ∃ j : Nat, j ≤ p.length ∧ i = .int .i64 j ∧ Hid (wr.ownsRow w.heap.size 3 1 l j ((idL j).map (Value.int .i64))) ∧ Hid (Below w.heap.size w wr)) (fun _ i _ => p.length - (intOf i).toNat)
    case atStart => exact ⟨0, Nat.zero_le _, rfl, HR0, HB0⟩
    case round =>
      obtain ⟨j, hj, rfl, HR, HB⟩ := hrel
      by_cases hlt : j < p.length
      · have HE := Lib.hid (show (idL (j + 1)).map (Value.int .i64) = (idL j).map (Value.int .i64) ++ [.int .i64 (j : Int)] by rw [idL_succ, List.map_append]; rfl)
        have hbs := HB.out.size
        go_wp2_with (at_builtin; refine append_one elemI rfl _ _ rfl rfl rfl HR.out rfl ?_ ?_ ?_ ?_ ?_; (simp [Value.oneCell']); (unfold maxLen; omega); omega; (exact hbs); intro v' w' ho' hg'; have HB2 := Lib.hid (below_appended HB.out HR.out (show wr.grownBy w' _ from hg') (Nat.le_refl _) hbs); clear hg'; have HR2 := Lib.hid ho'; clear ho')
        go_roundw
        case rel => exact ⟨j + 1, by omega, by go_num, Lib.hid (by rw [HE.out]; exact HR2.out), HB2⟩
        case measure => simp [intOf]; omega
      · have hj' : j = p.length := by omega
        subst hj'
        have RO := Lib.hid (show wr.ownsRow w.heap.size 3 1 u4 p.length ((LD p 0).map (Value.int .i64)) from HR.out)
        have HD0 := Lib.hid (show wr.ownsRow wr.heap.size 46 1 (.slice none 0 0) 0 ((drawsTo p 0).map (Value.int .u64)) from World.ownsRow_nil _ _ _ _)
        have hXX : wr.heap.size ≤ wr.heap.size := Nat.le_refl _
        have hNX := HB.out.size
        have hlg := fun g e => (RO.out.lt g e).2
        generalize hX : wr.heap.size = X at HD0 hXX hNX hlg
        clear HR hj hlt
        go_wp2_with fail
        generalize u4 = l at *
        go_loopw [6, 7, 8] (fun d i _ wr => ∃ s : Nat, s ≤ p.length - 1 ∧ i = .int .i64 ((p.length : Int) - 1 - s) ∧ Hid (wr.ownsRow X 46 1 d s ((drawsTo p s).map (Value.int .u64))) ∧ Hid (wr.ownsRow w.heap.size 3 1 l p.length ((LD p s).map (Value.int .i64))) ∧ Hid (Below w.heap.size w wr) ∧ X ≤ wr.heap.size) (fun _ i _ _ => (intOf i).toNat)
        case atStart => exact ⟨0, Nat.zero_le _, by go_num, HD0, RO, HB, by omega⟩
        case round =>
          obtain ⟨s, hs, rfl, HD, RO, HB, hXr⟩ := hrel
          by_cases hlt : s < p.length - 1
          · obtain ⟨m, hm1⟩ : ∃ m : Nat, (p.length : Int) - 1 - s = m := ⟨p.length - 1 - s, by omega⟩
            have hm2 : p.length - 1 - s = m := by omega
            have hm3 : m < p.length := by omega
            have hm4 : (0 : Int) < (m : Int) := by omega
            rw [hm1]
            obtain ⟨hPL, hTL⟩ := LD_inv HVB.out s hs
            obtain ⟨j, hd, hjm, hLj, hLs, hP2, hT2⟩ := draw_step HVB.out hlt hPL hTL
            have hdd : placeR (p[m]?.getD 0) (LD p s) 0 = (j : Int) := by have := hd; unfold drawAt at this; rwa [hm2] at this
            rw [hm2] at hjm hLj hLs
            obtain ⟨x, hx, hxl⟩ := valid_at HVB.out hm3
            rw [hx] at hLj hdd
            have hjl : j < (LD p s).length := by rw [LD_length]; omega
            have hyl : m < (LD p s).length := by rw [LD_length]; exact hm3
            have hxx : (LD p s)[j]? = some (x : Int) := by rw [List.getElem?_eq_getElem hjl, ← getD_of hjl, hLj]
            obtain ⟨y, hyy⟩ : ∃ y, (LD p s)[m]? = some y := ⟨_, List.getElem?_eq_getElem hyl⟩
            have HSW := Lib.hid (show ((((LD p s).map (Value.int .i64)).set j (.int .i64 y)).set m (.int .i64 x)) = (LD p (s + 1)).map (Value.int .i64) by rw [hLs]; exact set_swap _ _ _ _ _ hxx hyy)
            have IL := Lib.hid (show IntsAt .i64 wr.heap.size wr l (LD p s) from IntsAt.of_owns (LD_length _ _).symm RO.out)
            have HPL := Lib.hid (place_any l (LD p s) (by rw [LD_length]; exact hp) (x : Int) wr IL.out)
            rw [hdd] at HPL
            rcases HV.out.form with ⟨_, e0⟩ | ⟨b, off, cap, e0, hc, hb, hcs⟩
            · rw [e0] at hm3; cases hm3
            cases e0
            have cp := (HB.out.cell (p := ⟨b, off + m, none⟩) hb).trans (hcs m hm3)
            rw [hx] at cp
            have hbl := World.block_lt_of_cell? _ _ cp
            obtain ⟨G, cl, el, hG1, hG2⟩ := own_some RO.out (by omega)
            have hGX : G < X := hlg G (by rw [el]; rfl)
            subst el
            have HY := Lib.hid (by rw [List.getElem?_map, hyy]; rfl : ((LD p s).map (Value.int .i64))[m]? = some (Value.int .i64 y))
            have hll : ((LD p s).map (Value.int .i64)).length = p.length := by rw [List.length_map, LD_length]
            have HE := Lib.hid (drawsTo_snoc p s)
            rw [hd] at HE
            have HM1 := Lib.hid hm1
            have wu : IntKind.u64.wrap (j : Int) = j := IntWalk.u64_in _ (by omega)
            have hjp : j < p.length := by omega
            clear hcs hx hLj hLs hP2 hT2 hPL hTL hm1 hm2 hd hjl hyl hxx hyy hdd IL
            go_wp2_with fail
            refine HPL.out.mono ?_
            rintro e w5 ⟨rfl, rfl⟩
            clear HPL
            go_upto_region 14 with (at_builtin; refine append_one elemU rfl _ _ rfl rfl rfl HD.out rfl ?_ ?_ ?_ ?_ ?_; (simp [Value.oneCell']); (unfold maxLen; omega); omega; (exact hXr); intro v' w5 ho' hg'; have hg2 := Lib.hid (show wr.grownBy w5 u6.ownBlock from hg'); clear hg'; have HO5 := Lib.hid ho'; clear ho')
            have P1 := Lib.hid (RO.out.kept hg2.out (own_apart_lt HD.out hGX))
            have bX := (Below.refl X wr).grown hg2.out hXr (fun k e => (HD.out.lt k e).1)
            have hX5 : X ≤ w5.heap.size := Nat.le_trans hXr bX.size
            have cm := (P1.out.cellAt m (by omega)).trans HY.out
            have fm := P1.out.frozenAt m
            have fj := P1.out.frozenAt j
            obtain ⟨zj, cj⟩ : ∃ z, w5.cell? ⟨G, j, none⟩ = some z := ⟨_, (P1.out.cellAt j (by omega)).trans (List.getElem?_eq_getElem (by omega))⟩
            have cp5 := (bX.cell (p := ⟨b, off + m, none⟩) (show b < X by omega)).trans cp
            have cp6 := (World.cell?_setCell_other w5 ⟨G, j, none⟩ ⟨b, off + m, none⟩ (.int .i64 y) (by simp)).trans cp5
            obtain ⟨zm, cz⟩ : ∃ z, (w5.setCell ⟨G, j, none⟩ (.int .i64 y)).cell? ⟨G, m, none⟩ = some z := by
              by_cases e : m = j
              · subst e; exact ⟨_, World.cell?_setCell_same _ _ _ cj⟩
              · exact ⟨_, (World.cell?_setCell_other _ _ _ _ (by simp)).trans cm⟩
            have st1 := P1.out.stored j (.int .i64 y)
            have st2 := st1.1.stored m (.int .i64 x)
            rw [HSW.out] at st2
            have gg := grown_trans st1.2 st2.2
            have RO6 := Lib.hid st2.1
            have RD6 := Lib.hid (show World.ownsRow _ X 46 1 v' (s + 1) ((drawsTo p (s + 1)).map (Value.int .u64)) from HE.out ▸ row_other HO5.out gg (fun k e => by cases e; exact hGX))
            have RB6 := Lib.hid ((HB.out.trans (bX.mono hNX)).grown gg (Nat.le_trans hNX hX5) (fun k e => by cases e; exact hG1))
            have hX6 := Nat.le_trans hX5 gg.size
            have hbl5 := World.block_lt_of_cell? _ _ cp5
            have hGl5 := World.block_lt_of_cell? _ _ cm
            clear st1 st2 gg bX cp HO5 hg2 P1
            go_wp2_with fail
            go_roundw
            case rel => exact ⟨s + 1, by omega, by have := HM1.out; rw [show (p.length : Int) - 1 - ((s + 1 : Nat) : Int) = (m : Int) - 1 by omega], RD6, RO6, RB6, hX6⟩
            case measure => simp [intOf]; omega
          · have hse : s = p.length - 1 := by omega
            subst hse
            go_wp2_with fail
            go_ret2
            exact ⟨_, rfl, by show World.ownsRow _ _ _ _ _ (drawsTo p (p.length - 1)).length _; rw [drawsTo_length]; exact owns_mono hNX HD.out, HB.out⟩
theorem okS_draws {p : List Int} (hp : p.length ≤ 1048576) : okS (drawsL p) 0 (p.length : Int) = true := by
  have hl : (drawsL p).length = p.length - 1 := drawsTo_length _ _
  unfold okS needZ
  rw [hl]
  simp only [Bool.and_eq_true, decide_eq_true_eq]
  refine ⟨by omega, by omega, ?_⟩
  split <;> omega
theorem drawsL_range {p : List Int} (h : validB p = true) (hp : p.length ≤ 1048576) : ∀ z ∈ drawsL p, 0 ≤ z ∧ z < 18446744073709551616 := fun z hz => by
  have := draws_range h (p.length - 1) (Nat.le_refl _) z hz
  omega
set_option maxHeartbeats 4000000 in
theorem walk_draws (v : Value) (p : List Int) (zp : InW p) (w : World) (hp : p.length ≤ maxLen) (hv : IntsAt .i64 w.heap.size w v p) :
    Calls Try.prog 4 #[v] w fun e w' => e = .returned (.bool true) ∧ Below w.heap.size w w' := by
  obtain ⟨a, c, rfl⟩ := ints_value hv
  unfold maxLen at hp
  by_cases h1 : (200 : Int) < p.length
  · clear hv
    go_enter Try.func4, Try.ntmps4
    go_wp2_with fail
    refine (alive_any _).mono ?_
    rintro e w1 ⟨rfl, b1⟩
    go_wp2_with fail
    go_ret
    exact ⟨rfl, b1⟩
  · have hp20 : p.length ≤ 1048576 := by omega
    have E1 := Lib.hid (fun W h => draws_any (.slice a p.length c) p hp20 zp W h)
    have E2 := Lib.hid (fun W h => refDraws_any (.slice a p.length c) p hp20 W h)
    have HV := Lib.hid hv
    have HLE := Lib.hid (show (drawsL p).length = p.length - 1 from drawsTo_length _ _)
    have HLO := Lib.hid (show (orL (validB p) (drawsL p)).length ≤ 1048576 from Nat.le_trans (orL_length _ _) (by rw [HLE.out]; omega))
    have HVB := Lib.hid (fun h => drawsL_range (p := p) h hp20)
    have HMK := Lib.hid (fun h => draws_make (p := p) h)
    have HOK := Lib.hid (okS_draws hp20)
    clear hv zp hp
    unfold DrawsOk at E1 E2
    go_enter Try.func4, Try.ntmps4
    go_wp2_with fail
    refine (E1.out _ HV.out).mono ?_
    rintro e w1 ⟨v1, rfl, o1, b1⟩
    have Q1 := Lib.hid (IntsAt.of_owns rfl o1)
    obtain ⟨a1, c1, rfl⟩ := own_value o1
    have B1 := Lib.hid b1
    have V1 := Lib.hid (HV.out.later b1)
    clear b1 o1
    go_wp2_with fail
    refine (E2.out _ V1.out).mono ?_
    rintro e w2 ⟨v2, rfl, o2, b2⟩
    have R2 := Lib.hid (IntsAt.of_owns rfl o2)
    obtain ⟨a2, c2, rfl⟩ := own_value o2
    have B2 := Lib.hid (below_step B1.out b2)
    have V2 := Lib.hid (V1.out.later b2)
    have Q2 := Lib.hid (Q1.out.later b2)
    clear b2 o2 E1 E2
    cases hval : validB p
    · rw [hval] at Q2 R2 HLO
      clear hval
      go_wp2_with fail
      refine (equalU_same _ _ _ HLO.out _ _ _ Q2.out R2.out).mono ?_
      rintro e w3 ⟨rfl, b3⟩
      have B3 := Lib.hid (below_step B2.out b3)
      clear b3
      go_wp2_with fail
      refine (alive_any _).mono ?_
      rintro e w4 ⟨rfl, b4⟩
      have B4 := Lib.hid (below_step B3.out b4)
      clear b4
      go_wp2_with fail
      go_ret
      exact ⟨rfl, B4.out⟩
    · rw [hval] at Q2 R2 HLO
      have HR := Lib.hid (HVB.out hval)
      have HM := Lib.hid (HMK.out hval)
      clear hval
      unfold orL at Q2 R2 HLO ⊢
      simp only [if_true] at Q2 R2 HLO ⊢
      go_wp2_with fail
      refine (equalU_same _ _ _ HLO.out _ _ _ Q2.out R2.out).mono ?_
      rintro e w3 ⟨rfl, b3⟩
      have B3 := Lib.hid (below_step B2.out b3)
      have V3 := Lib.hid (V2.out.later b3)
      have Q3 := Lib.hid (Q2.out.later b3)
      clear b3
      go_wp2_with fail
      refine (new_any _ (drawsL p) (by rw [HLE.out]; omega) _ Q3.out).mono ?_
      rintro e w4 ⟨b, rfl, hb, s4, b4⟩
      have S4 := Lib.hid s4
      have V4 := Lib.hid (V3.out.later b4)
      have B4 := Lib.hid (below_step B3.out b4)
      have hs4 : w.heap.size ≤ b := Nat.le_trans B3.out.size hb
      clear b4 s4
      go_wp2_with fail
      refine (shuffle_any b (drawsL p) HR.out 0 (by rw [HLE.out]; omega) (p.length : Int) (by omega) _ S4.out).mono ?_
      intro e w5 h
      unfold Shuffled at h
      rw [HOK.out] at h
      obtain ⟨v5, rfl, o5, s5, g5⟩ := h
      rw [Int.toNat_natCast, HM.out] at o5
      have Q5 := Lib.hid (IntsAt.of_owns rfl o5)
      obtain ⟨a5, c5, rfl⟩ := own_value o5
      have V5 := Lib.hid ((HV.out.below (B4.out.grown g5 B4.out.size (fun q e => by cases e; exact hs4))).grow (Nat.le_trans B4.out.size g5.size))
      have B5 := Lib.hid (B4.out.grown g5 B4.out.size (fun q e => by cases e; exact hs4))
      clear o5 s5 g5
      go_wp2_with fail
      refine (alive_any _).mono ?_
      rintro e w6 ⟨rfl, b6⟩
      have B6 := Lib.hid (below_step B5.out b6)
      have V6 := Lib.hid (V5.out.later b6)
      have Q6 := Lib.hid (Q5.out.later b6)
      clear b6
      go_wp2_with fail
      refine (equal_same _ _ p (by omega) _ _ _ Q6.out V6.out).mono ?_
      rintro e w7 ⟨rfl, b7⟩
      have B7 := Lib.hid (below_step B6.out b7)
      clear b7
      go_wp2_with fail
      go_ret
      exact ⟨rfl, B7.out⟩
end Go.Proofs.Ytanfdajllhlcbaa
