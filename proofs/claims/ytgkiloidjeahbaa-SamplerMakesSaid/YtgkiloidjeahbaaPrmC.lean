/- Layer 6: the identity, Need, Shuffle. -/
import Derived.Test.YtgkiloidjeahbaaPrmB
import Derived.Test.YtgkiloidjeahbaaDrawC
import Derived.Test.YtgkiloidjeahbaaDrawM
namespace Go.Proofs.Ytgkiloidjeahbaa
open Go.RowKit
set_option linter.unusedVariables false
def idP (n k : Nat) : List Int := (List.range n).map fun (i : Nat) => if i < k then (i : Int) else 0
theorem idP_length (n k : Nat) : (idP n k).length = n := by simp [idP]
theorem idP_zero (n : Nat) : (idP n 0).map (Value.int .i64) = List.replicate (n * 1) (.int .i64 0) := by
  unfold idP
  apply List.ext_getElem
  · simp
  · intro i h1 h2
    simp
theorem idP_all (n : Nat) : idP n n = idL n := by
  unfold idP idL
  apply List.map_congr_left
  intro i hi
  rw [if_pos (List.mem_range.1 hi)]
theorem idP_set (n k : Nat) (h : k < n) : ((idP n k).map (Value.int .i64)).set k (.int .i64 (k : Int)) = (idP n (k + 1)).map (Value.int .i64) := by
  unfold idP
  apply List.ext_getElem
  · simp
  · intro i h1 h2
    rw [List.getElem_set]
    simp only [List.getElem_map, List.getElem_range]
    by_cases e : k = i
    · subst e; simp
    · rw [if_neg e]
      by_cases h3 : i < k
      · rw [if_pos h3, if_pos (by omega)]
      · rw [if_neg h3, if_neg (by omega)]
set_option maxHeartbeats 1000000 in
theorem identity_any (n : Nat) (hn : n ≤ 1048576) (w : World) :
    Calls Try.prog 34 #[.int .i64 n] w fun e w' => e = .returned (.slice (some ⟨w.heap.size, 0, none⟩) n n) ∧ w'.ownsRow w.heap.size 3 1 (.slice (some ⟨w.heap.size, 0, none⟩) n n) n ((idL n).map (Value.int .i64)) ∧ Below w.heap.size w w' := by
  have hmk := run_make_elem elemI .i64 .i64 n (by omega) (by omega)
  have ho := owns_made (w := w) (base := w.heap.size) (e := 3) (size := 1) (n := n) (u := .int .i64 0) (z := #[.int .i64 0]) rfl (by decide) (Nat.le_refl _) (by unfold maxLen; omega)
  rw [← idP_zero, Nat.mul_one] at ho
  have HO := Lib.hid ho
  have AL := Lib.hid ((Below.refl w.heap.size w).alloc (Nat.le_refl _) (.cells (madeCells #[.int .i64 0] n) 3))
  clear ho
  go_enter Try.func34, Try.ntmps34
  go_wp2_with fail
  go_loopw [4, 9] (fun _ i wr => ∃ k : Nat, k ≤ n ∧ i = .int .i64 k ∧ Hid (wr.ownsRow w.heap.size 3 1 (.slice (some ⟨w.heap.size, 0, none⟩) n n) n ((idP n k).map (Value.int .i64))) ∧ Hid (Below w.heap.size w wr)) (fun _ i _ => n - (intOf i).toNat)
  case atStart => exact ⟨0, Nat.zero_le _, rfl, HO, AL⟩
  case round =>
    obtain ⟨k, hk, rfl, HR, HB⟩ := hrel
    clear hmk
    by_cases hlt : k < n
    · have hc := HR.out.cellAt k (by omega)
      have hf := HR.out.frozenAt k
      rw [List.getElem?_map, List.getElem?_eq_getElem (by rw [idP_length]; exact hlt), Option.map_some] at hc
      have st := HR.out.stored k (.int .i64 (k : Int))
      rw [idP_set n k hlt] at st
      have HR2 := Lib.hid st.1
      have HB2 := Lib.hid (HB.out.grown st.2 HB.out.size (fun j e => by cases e; exact Nat.le_refl _))
      clear st
      generalize (idP n k)[k]'(by rw [idP_length]; exact hlt) = y at *
      have hbw : w.heap.size < wr.heap.size := World.block_lt_of_cell? _ _ hc
      go_wp2_with fail
      go_roundw
      case rel => exact ⟨k + 1, by omega, by go_num, HR2, HB2⟩
      case measure => simp [intOf]; omega
    · have hk' : k = n := by omega
      subst hk'
      have H := idP_all k
      have HX := Lib.hid (H ▸ HR.out)
      clear H
      go_wp2_with fail
      go_ret
      exact ⟨rfl, HX.out, HB.out⟩
def needZ (n : Int) : Int := if n < 1 then 0 else n - 1
theorem need_any (n : Int) (hn : n ≤ 9223372036854775807) (w : World) : Calls Try.prog 20 #[.int .i64 n] w fun e w' => e = .returned (.int .i64 (needZ n)) ∧ w = w' := by
  by_cases h : n < 1
  · have H := Lib.hid (show needZ n = 0 from if_pos h)
    go_enter Try.func20, Try.ntmps20
    go_wp2
    go_ret
    exact ⟨by rw [H.out]; rfl, rfl⟩
  · have H := Lib.hid (show needZ n = n - 1 from if_neg h)
    go_enter Try.func20, Try.ntmps20
    go_wp2
    go_ret
    exact ⟨by rw [H.out]; rfl, rfl⟩
theorem refNeed_any (n : Int) (hn : n ≤ 9223372036854775807) (w : World) : Calls Try.prog 25 #[.int .i64 n] w fun e w' => e = .returned (.int .i64 (needZ n)) ∧ w = w' := by
  by_cases h : n < 1
  · have H := Lib.hid (show needZ n = 0 from if_pos h)
    go_enter Try.func25, Try.ntmps25
    go_wp2
    go_ret
    exact ⟨by rw [H.out]; rfl, rfl⟩
  · have H := Lib.hid (show needZ n = n - 1 from if_neg h)
    go_enter Try.func25, Try.ntmps25
    go_wp2
    go_ret
    exact ⟨by rw [H.out]; rfl, rfl⟩
/-- whether there are draws enough -/
def okS (zs : List Int) (k : Nat) (n : Int) : Bool := decide (0 ≤ n) && (decide (n ≤ 1048576) && decide (needZ n ≤ (zs.length : Int) - k))
def Shuffled (b : Nat) (zs : List Int) (k : Nat) (n : Int) (w : World) (e : Ending) (w' : World) : Prop :=
  if okS zs k n then ∃ v, e = .returned (.tuple #[v, .bool true]) ∧ w'.ownsRow w.heap.size 3 1 v n.toNat ((shufL zs k n.toNat).map (Value.int .i64)) ∧ StreamAt b w' zs (k + (n.toNat - 1)) ∧ w.grownBy w' (some b)
  else e = .returned (.tuple #[.slice none 0 0, .bool false]) ∧ StreamAt b w' zs k ∧ w.grownBy w' (some b)
set_option maxHeartbeats 1000000 in
theorem shuffle_nil (n : Int) (w : World) : Calls Try.prog 23 #[.int .i64 n, .pointer none] w fun e w' => e = .returned (.tuple #[.slice none 0 0, .bool false]) ∧ w = w' := by
  by_cases h0 : n < 0
  · have g0 : decide (n < 0) = true := by simpa using h0
    go_enter Try.func23, Try.ntmps23
    go_wp2_with fail
    go_ret2
    exact ⟨rfl, rfl⟩
  · have g0 : decide (n < 0) = false := by simpa using h0
    by_cases h1 : 1048576 < n
    · have g1 : decide (1048576 < n) = true := by simpa using h1
      go_enter Try.func23, Try.ntmps23
      go_wp2_with fail
      go_ret2
      exact ⟨rfl, rfl⟩
    · have g1 : decide (1048576 < n) = false := by simpa using h1
      go_enter Try.func23, Try.ntmps23
      go_wp2_with fail
      go_ret2
      exact ⟨rfl, rfl⟩
theorem shuf_swap (zs : List Int) (k n s : Nat) (x y : Int) (i j : Nat) (hi : i = n - 1 - s) (hj : (j : Int) = (zs[k + s]?.getD 0) % ((i : Int) + 1)) (hx : (shufTo zs k n s)[i]? = some x) (hy : (shufTo zs k n s)[j]? = some y) :
    (((shufTo zs k n s).map (Value.int .i64)).set i (.int .i64 y)).set j (.int .i64 x) = (shufTo zs k n (s + 1)).map (Value.int .i64) := by
  subst hi
  have e : ((zs[k + s]?.getD 0) % (((n - 1 - s : Nat) : Int) + 1)).toNat = j := by rw [← hj]; rfl
  show _ = (swapL (shufTo zs k n s) (n - 1 - s) ((zs[k + s]?.getD 0) % ((n - 1 - s : Nat) + 1 : Int)).toNat).map _
  rw [e]
  unfold swapL
  rw [hx, hy, Option.getD_some, Option.getD_some, List.map_set, List.map_set]
set_option maxHeartbeats 2000000 in
theorem shuffle_any (b : Nat) (zs : List Int) (hz : ∀ z ∈ zs, 0 ≤ z ∧ z < 18446744073709551616) (k : Nat) (hm : zs.length ≤ 1048576) (n : Int) (hn : -9223372036854775808 ≤ n ∧ n ≤ 9223372036854775807) (w : World) (h : StreamAt b w zs k) :
    Calls Try.prog 23 #[.int .i64 n, .pointer (some ⟨b, 0, none⟩)] w (Shuffled b zs k n w) := by
  have hk := h.2.1
  by_cases h0 : n < 0
  · have g0 : decide (n < 0) = true := by simpa using h0
    have hO : okS zs k n = false := by unfold okS; rw [show decide (0 ≤ n) = false by simp; omega]; rfl
    have HH := Lib.hid h
    clear h
    go_enter Try.func23, Try.ntmps23
    go_wp2_with fail
    go_ret2
    unfold Shuffled
    rw [hO]
    exact ⟨rfl, HH.out, World.grownBy.refl _ _⟩
  · have g0 : decide (n < 0) = false := by simpa using h0
    by_cases h1 : 1048576 < n
    · have g1 : decide (1048576 < n) = true := by simpa using h1
      have hO : okS zs k n = false := by unfold okS; rw [show decide (n ≤ 1048576) = false by simp; omega]; simp
      have HH := Lib.hid h
      clear h
      go_enter Try.func23, Try.ntmps23
      go_wp2_with fail
      go_ret2
      unfold Shuffled
      rw [hO]
      exact ⟨rfl, HH.out, World.grownBy.refl _ _⟩
    · have g1 : decide (1048576 < n) = false := by simpa using h1
      obtain ⟨n, rfl⟩ := Int.eq_ofNat_of_zero_le (show 0 ≤ n by omega)
      have HN := Lib.hid (need_any (n : Int) hn.2)
      by_cases h2 : (zs.length : Int) - k < needZ n
      · have g2 : decide ((zs.length : Int) - k < needZ n) = true := by simpa using h2
        have hO : okS zs k n = false := by unfold okS; rw [show decide (needZ n ≤ (zs.length : Int) - k) = false by simp; omega]; simp
        have HH := Lib.hid h
        clear h
        generalize needZ n = nz at *
        go_enter Try.func23, Try.ntmps23
        go_wp2_with fail
        refine (left_any b zs k hm _ HH.out).mono ?_
        rintro e w1 ⟨rfl, b1⟩
        have H1 := Lib.hid (HH.out.later b1)
        have B1 := Lib.hid b1
        clear b1
        go_wp2_with fail
        refine (HN.out _).mono ?_
        rintro e w2 ⟨rfl, rfl⟩
        go_wp2_with fail
        go_ret2
        unfold Shuffled
        rw [hO]
        exact ⟨rfl, H1.out, grown_below B1.out _⟩
      · have g2 : decide ((zs.length : Int) - k < needZ n) = false := by simpa using h2
        have hO : okS zs k n = true := by
          unfold okS
          rw [show decide (0 ≤ (n : Int)) = true by simp, show decide ((n : Int) ≤ 1048576) = true by simp; omega, show decide (needZ n ≤ (zs.length : Int) - k) = true by simp; omega]; rfl
        have hkn : k + (n - 1) ≤ zs.length := by
          unfold needZ at h2
          by_cases hn1 : (n : Int) < 1
          · omega
          · rw [if_neg hn1] at h2; omega
        have HH := Lib.hid h
        have HO := Lib.hid hO
        have hn20 : n ≤ 1048576 := by omega
        clear h hO h2
        generalize needZ n = nz at *
        go_enter Try.func23, Try.ntmps23
        go_wp2_with fail
        refine (left_any b zs k hm _ HH.out).mono ?_
        rintro e w1 ⟨rfl, b1⟩
        have H1 := Lib.hid (HH.out.later b1)
        have B1 := Lib.hid b1
        clear b1
        go_wp2_with fail
        refine (HN.out _).mono ?_
        rintro e w2 ⟨rfl, rfl⟩
        clear HN
        go_wp2_with fail
        refine (identity_any n hn20 _).mono ?_
        rintro e w2 ⟨rfl, ro, b2⟩
        have hs1 : w.heap.size ≤ w1.heap.size := B1.out.size
        have hbl := HH.out.1
        have RO := Lib.hid (owns_mono hs1 ro)
        have B2 := Lib.hid (below_step B1.out b2)
        have H2 := Lib.hid (H1.out.later b2)
        have hG : w1.heap.size < w2.heap.size := (ro.lt _ rfl).2
        clear ro b2
        generalize w1.heap.size = G at *
        have RO := Lib.hid (RO.out.alloc (.cells #[.slice (some ⟨G, 0, none⟩) n n] 38))
        have B3 := Lib.hid (below_alloc (o := .cells #[.slice (some ⟨G, 0, none⟩) n n] 38) B2.out)
        have H3 := Lib.hid (H2.out.later (below_alloc (o := .cells #[.slice (some ⟨G, 0, none⟩) n n] 38) (Below.refl _ _)))
        have CB := Lib.hid ((cell_new w2 #[.slice (some ⟨G, 0, none⟩) n n] 38 0).trans rfl)
        generalize hX : w2.heap.size = X at *
        have hX3 : X < (w2.alloc (.cells #[.slice (some ⟨G, 0, none⟩) n n] 38)).heap.size := by simp [hX]
        have GR := Lib.hid (grown_below B3.out (some b))
        generalize hk0 : w2.alloc (.cells #[.slice (some ⟨G, 0, none⟩) n n] 38) = w3 at *
        go_wp2_with fail
        go_loopw [8, 9, 10] (fun i _ _ wr => ∃ s : Nat, s ≤ n - 1 ∧ i = .int .i64 ((n : Int) - 1 - s) ∧ Hid (wr.ownsRow w.heap.size 3 1 (.slice (some ⟨G, 0, none⟩) n n) n ((shufTo zs k n s).map (Value.int .i64))) ∧ Hid (StreamAt b wr zs (k + s)) ∧ Hid (wr.cell? ⟨X, 0, none⟩ = some (.slice (some ⟨G, 0, none⟩) n n)) ∧ Hid (w.grownBy wr (some b))) (fun i _ _ _ => (intOf i).toNat)
        case atStart => exact ⟨0, Nat.zero_le _, by go_num, RO, H3, CB, GR⟩
        case round =>
          obtain ⟨s, hs, rfl, RO, HS, CB, GR⟩ := hrel
          by_cases hlt : s < n - 1
          · obtain ⟨m, hm1⟩ : ∃ m : Nat, (n : Int) - 1 - s = m := ⟨n - 1 - s, by omega⟩
            have hm2 : m = n - 1 - s := by omega
            have hm3 : m < n := by omega
            have hm4 : (0 : Int) < (m : Int) := by omega
            rw [hm1]
            have hkl : k + s < zs.length := by omega
            have N := next_any b zs hz (k + s) hm ((m : Int) + 1) (by omega) wr HS.out
            have HR := nextR_ok (zs := zs) (k := k + s) (n := (m : Int) + 1) (by omega) hkl
            unfold Nexted at N
            rw [HR] at N
            have hr := draw_range (zs[k + s]?.getD 0) m
            obtain ⟨j, hj⟩ := Int.eq_ofNat_of_zero_le hr.1
            have hSW := fun x y => shuf_swap zs k n s x y m j hm2 hj.symm
            rw [hj] at N hr
            have hjm : j < n := by omega
            have HN := Lib.hid N
            have SW := Lib.hid hSW
            have hlen := shufTo_length zs k n s
            obtain ⟨x, hx⟩ : ∃ x, (shufTo zs k n s)[m]? = some x := ⟨_, List.getElem?_eq_getElem (by omega)⟩
            obtain ⟨y, hy⟩ : ∃ y, (shufTo zs k n s)[j]? = some y := ⟨_, List.getElem?_eq_getElem (by omega)⟩
            have SW := Lib.hid (SW.out x y hx hy)
            have cm := (RO.out.cellAt m (by omega)).trans (by rw [List.getElem?_map, hx]; rfl : _ = some (Value.int .i64 x))
            have cj := (RO.out.cellAt j (by omega)).trans (by rw [List.getElem?_map, hy]; rfl : _ = some (Value.int .i64 y))
            have CM := Lib.hid cm
            have CJ := Lib.hid cj
            clear N hSW hj HR hx hy hlen cm cj
            generalize (shufTo zs k n s).map (Value.int .i64) = xs at *
            have hrt : k + s + 1 = k + (s + 1) := by omega
            rw [hrt] at HN
            have HM1 := Lib.hid hm1
            clear hm1 hm2
            go_wp2_with fail
            refine HN.out.mono ?_
            rintro e w5 ⟨rfl, st, gr⟩
            have HO5 := Lib.hid (row_kept RO.out gr hbl)
            have HG5 := Lib.hid (grown_trans GR.out gr)
            have HST := Lib.hid st
            have hXl : X < wr.heap.size := World.block_lt_of_cell? _ _ CB.out
            have hGl : G < wr.heap.size := World.block_lt_of_cell? _ _ CM.out
            have CB5 := Lib.hid ((grown_cell (o := 0) gr hXl (show X ≠ b by omega)).trans CB.out)
            have CM5 := Lib.hid ((grown_cell (o := m) gr hGl (show G ≠ b by omega)).trans CM.out)
            have CJ5 := Lib.hid ((grown_cell (o := j) gr hGl (show G ≠ b by omega)).trans CJ.out)
            clear st gr CM CJ CB RO HN
            go_wp2_with fail
            refine (exchange_any X G n n m j x y hm3 hjm w5 hn20 (by omega) CB5.out CM5.out CJ5.out (HO5.out.frozenAt m) (HO5.out.frozenAt j)).mono ?_
            rintro e w6 ⟨rfl, rfl⟩
            have st1 := HO5.out.stored m (.int .i64 y)
            have st2 := st1.1.stored j (.int .i64 x)
            rw [SW.out] at st2
            have gg := grown_trans st1.2 st2.2
            have hG5 : G < w5.heap.size := World.block_lt_of_cell? _ _ CM5.out
            have gg := grown_trans gg (grown_below (Below.refl _ _).drew _)
            have RO6 := Lib.hid st2.1.drew
            have BG := (Below.refl G w5).grown gg (Nat.le_of_lt hG5) (fun q e => by cases e; exact Nat.le_refl _)
            have HS6 := Lib.hid (HST.out.below BG (by omega))
            have CB6 := Lib.hid ((grown_cell (o := 0) gg (World.block_lt_of_cell? _ _ CB5.out) (show X ≠ G by omega)).trans CB5.out)
            have GR6 := Lib.hid (grown_then HG5.out (BG.mono hs1))
            clear st1 st2 gg BG CB5 CM5 CJ5 HO5 HST HG5
            generalize ((w5.setCell ⟨G, m, none⟩ (.int .i64 y)).setCell ⟨G, j, none⟩ (.int .i64 x)).drew = w6 at *
            go_wp2_with fail
            go_roundw
            case rel => exact ⟨s + 1, by omega, by have := HM1.out; rw [show (n : Int) - 1 - ((s + 1 : Nat) : Int) = (m : Int) - 1 by omega], RO6, HS6, CB6, GR6⟩
            case measure => simp [intOf]; omega
          · have hse : s = n - 1 := by omega
            subst hse
            have cb := CB.out
            go_wp2_with fail
            go_ret2
            unfold Shuffled
            rw [HO.out]
            exact ⟨_, rfl, RO.out, HS.out, GR.out⟩
end Go.Proofs.Ytgkiloidjeahbaa
