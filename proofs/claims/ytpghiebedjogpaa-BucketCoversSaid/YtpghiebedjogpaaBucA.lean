/- Layer 15: lists of ranges in reverse, buckets and groups. -/
import Derived.Test.YtpghiebedjogpaaPartD
import Derived.Test.YtpghiebedjogpaaGen
import Derived.Shelf.SlicesQ.Reverse
import Derived.Lib.OwnBridge
namespace Go.Proofs.Ytpghiebedjogpaa
open Go.RowKit Go.Shelf Go.Sort
set_option linter.unusedVariables false
theorem RangesAt.new {e : TypeId} {rs : List (Int × Int)} {w w' : World} {v : Value} (h : w'.ownsRow w.heap.size e 2 v rs.length (rcells rs)) : RangesAt w'.heap.size w' v rs := RangesAt.of_owns rfl h
theorem RangesAt.value {n₀ : Nat} {w : World} {v : Value} {rs : List (Int × Int)} (h : RangesAt n₀ w v rs) : ∃ a c, v = .slice a rs.length c := by
  rcases h.form with ⟨rfl, rfl⟩ | ⟨b, off, cap, rfl, _⟩ <;> exact ⟨_, _, rfl⟩
def brevRen : Go.Shelf.Ren := ⟨fun | 35 => 25 | n => n, fun | 22 => 28 | 23 => 33 | n => n, fun | n => n⟩
theorem brevLays : Go.Proofs.SlLaysE0.n35 Try.prog brevRen := {
  mixed := by kernel_rfl
  f35 := ⟨Try.f25.name, by decide, Try.func25.trans (congrArg some (by kernel_rfl))⟩
  t0 := Try.underlying0
  a0 := Try.isAgg0
  z0 := Try.sizeOf0
  v0 := Try.zeroValue0
  t3 := Try.underlying3
  a3 := Try.isAgg3
  z3 := Try.sizeOf3
  v3 := Try.zeroValue3
  t4 := Try.underlying4
  a4 := Try.isAgg4
  z4 := Try.sizeOf4
  v4 := Try.zeroValue4
  t22 := Try.underlying28
  a22 := Try.isAgg28
  z22 := Try.sizeOf28
  v22 := Try.zeroValue28 }
theorem flat_rcells (rs : List (Int × Int)) : flatK rcell 2 rs.toArray = (rcells rs).toArray := by
  refine ext_get! (by simp [rcells_length]) fun t ht => ?_
  have ht' : t < rs.length * 2 := by simpa using ht
  rw [get_flatK _ _ _ _ (by simpa using ht')]
  have h2 : t / 2 < rs.length := by omega
  obtain ⟨q0, q1⟩ := rcells_at rs (t / 2) h2
  have hl : t < (rcells rs).length := by rw [rcells_length]; exact ht'
  have e1 : (rs.toArray)[t / 2]! = rs[t / 2] := by simp [getElem!_pos, h2]
  have e2 : ((rcells rs).toArray)[t]! = (rcells rs)[t] := by simp [getElem!_pos, hl]
  rw [e1, e2]
  rcases Nat.mod_two_eq_zero_or_one t with hm | hm
  · have ej : t / 2 * 2 = t := by omega
    rw [ej, List.getElem?_eq_getElem hl] at q0
    rw [hm, Option.some.inj q0]; rfl
  · have ej : t / 2 * 2 + 1 = t := by omega
    rw [ej, List.getElem?_eq_getElem hl] at q1
    rw [hm, Option.some.inj q1]; rfl
/-- a row of the call's own, whatever its elements' size, in the words of the library's texts on sorting -/
theorem holds_owned {w : World} {base size n : Nat} {e : TypeId} {v : Value} {xs : List Value} (h : w.ownsRow base e size v n xs) (hv : v ≠ .slice none 0 0) :
    ∃ g cap, v = .slice (some ⟨g, 0, none⟩) n cap ∧ base ≤ g ∧ g < w.heap.size ∧ Holds id w g 0 xs.toArray := by
  have hl := h.1
  rcases h.2 with ⟨e0, _⟩ | ⟨g, cap, cur, rfl, hb, hg, hn, hm, hs, ht⟩
  · exact absurd e0 hv
  · have hlt : g < w.heap.size := lt_of_block hg
    refine ⟨g, cap, rfl, hb, hlt, fun j hj => ?_⟩
    have hj' : j < n * size := by simpa [hl] using hj
    refine ⟨?_, by simp [World.frozen?, hg]⟩
    have e1 : (cur.toList.take (n * size))[j]? = xs[j]? := by rw [ht]
    rw [List.getElem?_take, if_pos hj', Array.getElem?_toList, List.getElem?_eq_getElem (by omega)] at e1
    simp only [World.cell?, hg, Nat.zero_add]
    simp only [Option.isSome_none, Bool.false_eq_true, if_false]
    rw [e1]
    simp [getElem!_pos, show j < xs.length by omega]
theorem owned_put {w : World} {base size g n cap q : Nat} {e : TypeId} {xs ys : List Value} (h : w.ownsRow base e size (.slice (some ⟨g, 0, none⟩) n cap) n xs) (hy : ys.length = xs.length) :
    (putRow id (Sort.ahead w q) g 0 ys.toArray).ownsRow base e size (.slice (some ⟨g, 0, none⟩) n cap) n ys := by
  have hl := h.1
  rcases h.2 with ⟨e0, _⟩ | ⟨g', cap', cur, e0, hb, hg, hn, hm, hs, ht⟩
  · cases e0
  · injection e0 with e1 _ e3
    injection e1 with e1
    injection e1 with e1
    subst e1; subst e3
    have hle : n * size ≤ cur.size := by rw [hs]; exact Nat.mul_le_mul_right _ hn
    refine ⟨by omega, .inr ⟨g, cap, putCells id 0 ys.toArray cur, rfl, hb, ?_, hn, hm, by simpa [putCells] using hs, ?_⟩⟩
    · simp [putRow, mapBlock, Sort.ahead, Array.getElem?_modify, hg, onCells]
    · apply List.ext_getElem?
      intro j
      rw [List.getElem?_take, Array.getElem?_toList]
      by_cases hj : j < n * size
      · have hjc : j < cur.size := by omega
        simp only [if_pos hj, putCells, Array.getElem?_mapIdx, Array.getElem?_eq_getElem hjc, Option.map_some]
        rw [if_pos (by simp; omega), List.getElem?_eq_getElem (by omega)]
        simp [getElem!_pos, show j < ys.length by omega]
      · rw [if_neg hj, List.getElem?_eq_none (by omega)]
theorem breverse_any (base : Nat) (v : Value) (rs : List (Int × Int)) (hl : rs.length ≤ maxLen) (w : World) (ho : w.ownsRow base 33 2 v rs.length (rcells rs)) :
    Calls Try.prog 25 #[v] w fun e w' => e = .returned (.tuple #[]) ∧ w'.ownsRow base 33 2 v rs.reverse.length (rcells rs.reverse) ∧ Below base w w' := by
  unfold maxLen at hl
  by_cases hv : v = .slice none 0 0
  · have hn : rs.length = 0 := by
      rcases ho.2 with ⟨_, h⟩ | ⟨g, cap, cur, e, _⟩
      · exact h
      · rw [hv] at e; cases e
    have hz : rs = [] := List.length_eq_zero_iff.1 hn
    subst hv hz
    refine (AnyQ.slices_Reverse_empty brevLays none 0 w).mono ?_
    rintro e w' ⟨rfl, rfl⟩
    exact ⟨rfl, ho, Below.refl _ _⟩
  · obtain ⟨g, cap, rfl, hg, hlt, hH⟩ := holds_owned ho hv
    have hrv := AnyQ.slices_Reverse brevLays 2 (Try.isAgg33) (Try.sizeOf33) rcell (fun _ => rfl) (fun x v hv => by simp [rcell] at hv; rcases hv with rfl | rfl <;> rfl) g 0 cap rs.toArray w (by unfold HoldsK; rw [flat_rcells]; exact hH) (by simpa using hl)
    refine hrv.mono ?_
    rintro e w' ⟨rfl, q, hw'⟩
    have er : rs.toArray.reverse = rs.reverse.toArray := by simp
    rw [er] at hw'
    unfold putRowK at hw'
    rw [flat_rcells] at hw'
    have h1 := owned_put (q := q) (ys := rcells rs.reverse) ho (by rw [rcells_length, rcells_length, List.length_reverse])
    have hB : Below base w w' := by rw [hw']; exact Go.Lib.below_putRow (Below.refl _ _) hg
    rw [← hw'] at h1
    rw [List.length_reverse]
    exact ⟨rfl, h1, hB⟩
def bucketsR (n s : Int) : List (Int × Int) := (blocksR n s).reverse
theorem bucketsR_length (n s : Int) (hn : n ≤ 1048576) : (bucketsR n s).length ≤ 1048576 := by
  unfold bucketsR
  rw [List.length_reverse]
  unfold blocksR
  rw [blTo_length]
  have := cntB_range n s
  omega
theorem blocksR_le (n s : Int) (hn : n ≤ 1048576) : (blocksR n s).length ≤ 1048576 := by
  have := bucketsR_length n s hn
  unfold bucketsR at this
  rwa [List.length_reverse] at this
set_option maxHeartbeats 1000000 in
theorem buckets_any (n s : Int) (hn : -9223372036854775808 ≤ n) (hn1 : n ≤ 1048576) (hs : -9223372036854775808 ≤ s) (hs1 : s ≤ 9223372036854775807) (w : World) :
    Calls Try.prog 11 #[.int .i64 n, .int .i64 s] w (NewRanges 33 (bucketsR n s) w) := by
  have hlen := blocksR_le n s hn1
  have E := fun W => blocks_any n s hn hn1 hs hs1 W
  unfold bucketsR
  generalize blocksR n s = rs at *
  go_enter Try.func11, Try.ntmps11
  go_wp2_with fail
  refine (E _).mono ?_
  rintro e w1 ⟨v, rfl, ho, b1⟩
  have HO := Lib.hid ho
  obtain ⟨a, c, rfl⟩ := own_value ho
  clear ho
  go_wp2_with fail
  refine (breverse_any _ _ rs (by unfold maxLen; omega) _ HO.out).mono ?_
  rintro e w2 ⟨rfl, ho2, b2⟩
  have HO2 := Lib.hid ho2
  clear ho2
  go_wp2_with fail
  go_ret
  exact ⟨_, rfl, HO2.out, b1.trans b2⟩
set_option maxHeartbeats 1000000 in
theorem groups_any (n s : Int) (hn : -9223372036854775808 ≤ n) (hn1 : n ≤ 1048576) (hs : -9223372036854775808 ≤ s) (hs1 : s ≤ 9223372036854775807) (w : World) :
    Calls Try.prog 13 #[.int .i64 n, .int .i64 s] w (NewRanges 33 (blocksR n s) w) := by
  have E := fun W => blocks_any n s hn hn1 hs hs1 W
  generalize blocksR n s = rs at *
  go_enter Try.func13, Try.ntmps13
  go_wp2_with fail
  refine (E _).mono ?_
  rintro e w1 ⟨v, rfl, ho, b1⟩
  have HO := Lib.hid ho
  clear ho
  go_wp2_with fail
  go_ret
  exact ⟨_, rfl, HO.out, b1⟩
set_option maxHeartbeats 1000000 in
theorem refGroups_any (n s : Int) (hn : -9223372036854775808 ≤ n) (hn1 : n ≤ 1048576) (hs : -9223372036854775808 ≤ s) (hs1 : s ≤ 9223372036854775807) (w : World) :
    Calls Try.prog 14 #[.int .i64 n, .int .i64 s] w (NewRanges 26 (blocksR n s) w) := by
  have E := fun W => refBlocks_any n s hn hn1 hs hs1 W
  generalize blocksR n s = rs at *
  go_enter Try.func14, Try.ntmps14
  go_wp2_with fail
  refine (E _).mono ?_
  rintro e w1 ⟨v, rfl, ho, b1⟩
  have HO := Lib.hid ho
  clear ho
  go_wp2_with fail
  go_ret
  exact ⟨_, rfl, HO.out, b1⟩
theorem rev_take (rs : List (Int × Int)) (k : Nat) (h : k < rs.length) : rs.reverse.take (k + 1) = rs.reverse.take k ++ [((rs[rs.length - 1 - k]'(by omega)).1, (rs[rs.length - 1 - k]'(by omega)).2)] := by
  rw [List.take_succ_eq_append_getElem (by simpa using h), List.getElem_reverse]
set_option maxHeartbeats 2000000 in
theorem refBuckets_any (n s : Int) (hn : -9223372036854775808 ≤ n) (hn1 : n ≤ 1048576) (hs : -9223372036854775808 ≤ s) (hs1 : s ≤ 9223372036854775807) (w : World) :
    Calls Try.prog 12 #[.int .i64 n, .int .i64 s] w (NewRanges 26 (bucketsR n s) w) := by
  have hlen := blocksR_le n s hn1
  have E := fun W => refBlocks_any n s hn hn1 hs hs1 W
  unfold bucketsR
  generalize blocksR n s = rs at *
  go_enter Try.func12, Try.ntmps12
  go_wp2_with fail
  refine (E _).mono ?_
  rintro e w1 ⟨v, rfl, ho, b1⟩
  have HR := Lib.hid (RangesAt.new ho)
  have HO := Lib.hid ho
  obtain ⟨a, c, rfl⟩ := own_value ho
  clear ho E
  have n1 : 0 ≤ (rs.length : Int) := Int.natCast_nonneg _
  go_wp2_with fail
  go_loopw [6, 7] (fun o i wr => ∃ k : Nat, k ≤ rs.length ∧ i = .int .i64 ((rs.length : Int) - 1 - k) ∧ wr.ownsRow w1.heap.size 26 2 o k (rcells (rs.reverse.take k)) ∧ Below w1.heap.size w1 wr) (fun _ i _ => (intOf i + 1).toNat)
  case atStart => exact ⟨0, Nat.zero_le _, by simp, World.ownsRow_nil _ _ _ _, Below.refl _ _⟩
  case round =>
    obtain ⟨k, hk, rfl, hown, hB⟩ := hrel
    by_cases hlt : k < rs.length
    · rcases HR.out.form with ⟨_, h0⟩ | ⟨b, off, cap, e0, hcap, hb, hcs⟩
      · rw [h0] at hlt; cases hlt
      cases e0
      obtain ⟨i, hi⟩ : ∃ i : Nat, i = rs.length - 1 - k := ⟨_, rfl⟩
      have hil : i < rs.length := by omega
      have h0 := (hB.cell (p := ⟨b, off + i * 2, none⟩) hb).trans (hcs i hil).1
      have h1 := (hB.cell (p := ⟨b, off + i * 2 + 1, none⟩) hb).trans (hcs i hil).2
      have hrt := rev_take rs k hlt
      have e1 : (rs.length : Int) - 1 - k = i := by omega
      rw [e1]
      have hlast : (i : Int) - 1 = (rs.length : Int) - 1 - (k + 1 : Nat) := by omega
      have HLA := Lib.hid hlast
      have hrt' : rs.reverse.take (k + 1) = rs.reverse.take k ++ [(rs[i].1, rs[i].2)] := by subst hi; exact hrt
      have HT := Lib.hid hrt'
      have HO' := Lib.hid hown
      have HI := Lib.hid hi
      clear hown hcs hrt hrt' hi e1 hlast
      generalize rs[i].1 = lo at h0 HT
      generalize rs[i].2 = hi at h1 HT
      have HB := Lib.hid hB
      have hil2 : (i : Int) < (rs.length : Int) := by omega
      have hi0 : (0 : Int) ≤ (i : Int) := Int.natCast_nonneg _
      go_wp2_with (at_builtin; refine append_one elemRR rfl _ _ rfl rfl rfl HO'.out rfl ?_ ?_ ?_ ?_ ?_; (simp [Value.oneCell']); (unfold maxLen; omega); omega; (exact HB.out.size); intro v' w' ho' hg'; have hg2 := Lib.hid (show wr.grownBy w' u6.ownBlock from hg'); clear hg'; have HO2 := Lib.hid ho'; clear ho')
      go_roundw
      case rel => exact ⟨k + 1, by omega, by rw [HLA.out], by rw [HT.out, rcells_snoc]; exact HO2.out, below_appended HB.out HO'.out hg2.out (Nat.le_refl _) HB.out.size⟩
      case measure => (simp [intOf] <;> omega)
    · have hk' : k = rs.length := by omega
      have e1 : (rs.length : Int) - 1 - k = -1 := by omega
      have h := hown
      rw [hk', List.take_of_length_le (by rw [List.length_reverse]; exact Nat.le_refl _)] at h
      rw [e1]
      have HO' := Lib.hid h
      have HB := Lib.hid hB
      clear hown h e1 hk' hB
      go_wp2_with fail
      go_ret
      refine ⟨_, rfl, ?_, below_step b1 HB.out⟩
      rw [List.length_reverse]
      exact owns_mono b1.size HO'.out
set_option maxHeartbeats 1000000 in
theorem back15_any (v : Value) (rs : List (Int × Int)) (hm : rs.length ≤ 1048576) (w : World) (hL : RangesAt w.heap.size w v rs) :
    Calls Try.prog 10 #[v] w (NewRanges 26 rs w) := by
  rcases hL.form with ⟨rfl, rfl⟩ | ⟨b, off, cap, rfl, hcap, hb, hcs⟩
  · go_enter Try.func10, Try.ntmps10
    go_wp2
    go_loopw [3, 5, 8] (fun o _ i wr => o = .slice none 0 0 ∧ i = .int .i64 0 ∧ wr = w) (fun _ _ _ _ => 0)
    case atStart => exact ⟨rfl, rfl, rfl⟩
    case round =>
      obtain ⟨rfl, rfl, rfl⟩ := hrel
      go_wp2
      go_ret
      exact ⟨_, rfl, World.ownsRow_nil _ _ _ _, Below.refl _ _⟩
  · go_enter Try.func10, Try.ntmps10
    go_wp2
    go_loopw [3, 5, 8] (fun o _ i wr => ∃ k : Nat, k ≤ rs.length ∧ i = .int .i64 k ∧ wr.ownsRow w.heap.size 26 2 o k (rcells (rs.take k)) ∧ Below w.heap.size w wr) (fun _ _ i _ => rs.length - (intOf i).toNat)
    case atStart => exact ⟨0, Nat.zero_le _, rfl, World.ownsRow_nil _ _ _ _, Below.refl _ _⟩
    case round =>
      obtain ⟨k, hk, rfl, hown, hB⟩ := hrel
      by_cases hlt : k < rs.length
      · have h0 := (hB.cell (p := ⟨b, off + k * 2, none⟩) hb).trans (hcs k hlt).1
        have h1 := (hB.cell (p := ⟨b, off + k * 2 + 1, none⟩) hb).trans (hcs k hlt).2
        have HT := Lib.hid (take_snoc_r rs k hlt)
        have HO := Lib.hid hown
        have HL := Lib.hid hL
        clear hown hL hcs
        generalize rs[k].1 = lo at h0 HT
        generalize rs[k].2 = hi at h1 HT
        go_wp2_with (at_builtin; refine append_at elemRR rfl _ _ rfl rfl rfl (HO.out.alloc _) rfl ?_ ?_ ?_ ?_ ?_ ?_; (simp); (simp [Value.oneCell']); (unfold maxLen; omega); omega; (have := hB.size; simp; omega); intro v' w' ho' hg'; have hg2 := Lib.hid (show (wr.alloc _).grownBy w' u3.ownBlock from hg'); clear hg'; have HO' := Lib.hid ho'; clear ho')
        go_roundw
        case rel => exact ⟨k + 1, by omega, by go_num, by rw [HT.out, rcells_snoc]; exact HO'.out, below_appended (hB.alloc hB.size _) (HO.out.alloc _) hg2.out (Nat.le_refl _) (by have := hB.size; simp; omega)⟩
        case measure => simp [intOf]; omega
      · have hk' : k = rs.length := by omega
        subst hk'
        have HO := Lib.hid hown
        clear hown hcs hL
        go_wp2
        go_ret
        have h := HO.out
        rw [List.take_length] at h
        exact ⟨_, rfl, h, hB⟩

theorem buckets52 : bucketsR 5 2 = [(4, 5), (2, 4), (0, 2)] := by decide
set_option maxHeartbeats 1000000 in
theorem alive15_any (w : World) : Calls Try.prog 8 #[] w fun e w' => e = .returned (.bool true) ∧ Below w.heap.size w w' := by
  have E := buckets_any 5 2 (by omega) (by omega) (by omega) (by omega) w
  rw [buckets52] at E
  go_enter Try.func8, Try.ntmps8
  go_wp2_with fail
  refine E.mono ?_
  rintro e w1 ⟨v, rfl, ho, h1⟩
  have HV := Lib.hid (RangesAt.new ho)
  obtain ⟨a, c, rfl⟩ := own_value ho
  clear ho
  go_wp2_with fail
  have F := SliceAt.fresh (w := w1) (e := 33) (n := 3) (size := 2) (cs := #[.int .i64 4, .int .i64 5, .int .i64 2, .int .i64 4, .int .i64 0, .int .i64 2]) (xs := rcells [(4, 5), (2, 4), (0, 2)]) rfl rfl
  refine (eqPart_same _ _ [(4, 5), (2, 4), (0, 2)] (by simp) _ (HV.out.later ((Below.refl _ _).alloc (Nat.le_refl _) _)) F).mono ?_
  rintro e w2 ⟨rfl, h2⟩
  go_wp2_with fail
  go_ret
  exact ⟨rfl, h1.trans (((Below.refl _ _).alloc h1.size _).trans (h2.mono (by rw [World.size_alloc]; exact Nat.le_succ_of_le h1.size)))⟩
set_option maxHeartbeats 2000000 in
theorem walk_divides (n s : Int) (hn : -9223372036854775808 ≤ n ∧ n ≤ 9223372036854775807) (hs : -9223372036854775808 ≤ s ∧ s ≤ 9223372036854775807) (w : World) :
    Calls Try.prog 3 #[.int .i64 n, .int .i64 s] w fun e w' => e = .returned (.bool true) ∧ Below w.heap.size w w' := by
  by_cases h3 : 2000 < n
  · go_enter Try.func3, Try.ntmps3
    go_wp2_with fail
    refine (alive15_any _).mono ?_
    rintro e w5 ⟨rfl, h5⟩
    go_wp2
    go_ret
    exact ⟨rfl, h5⟩
  · have n3 : n ≤ 2000 := by omega
    clear h3
    have l1 := blocksR_le n s (by omega)
    have l2 := bucketsR_length n s (by omega)
    have E1 := fun W => buckets_any n s hn.1 (by omega) hs.1 hs.2 W
    have E2 := fun W => refBuckets_any n s hn.1 (by omega) hs.1 hs.2 W
    have E3 := fun W => groups_any n s hn.1 (by omega) hs.1 hs.2 W
    have E4 := fun W => refGroups_any n s hn.1 (by omega) hs.1 hs.2 W
    generalize blocksR n s = rs at *
    generalize bucketsR n s = qs at *
    go_enter Try.func3, Try.ntmps3
    go_wp2_with fail
    refine (alive15_any _).mono ?_
    rintro e w0 ⟨rfl, b0⟩
    go_wp2_with fail
    refine (E1 _).mono ?_
    rintro e w1 ⟨v, rfl, ho1, b1⟩
    have V1 := Lib.hid (RangesAt.new ho1)
    have B1 := Lib.hid (below_step b0 b1)
    clear ho1 b0 b1
    go_wp2_with fail
    refine (back15_any _ qs (by omega) _ V1.out).mono ?_
    rintro e w2 ⟨u, rfl, ho2, b2⟩
    have U2 := Lib.hid (RangesAt.new ho2)
    have B2 := Lib.hid (below_step B1.out b2)
    clear ho2 b2
    go_wp2_with fail
    refine (E2 _).mono ?_
    rintro e w3 ⟨x, rfl, ho3, b3⟩
    have X3 := Lib.hid (RangesAt.new ho3)
    have U3 := Lib.hid (U2.out.later b3)
    have B3 := Lib.hid (below_step B2.out b3)
    clear ho3 b3
    go_wp2_with fail
    refine (eqRef_same u x qs (by omega) _ U3.out X3.out).mono ?_
    rintro e w4 ⟨rfl, b4⟩
    have B4 := Lib.hid (below_step B3.out b4)
    clear b4
    go_wp2_with fail
    refine (E3 _).mono ?_
    rintro e w1 ⟨v, rfl, ho1, b1⟩
    have V1 := Lib.hid (RangesAt.new ho1)
    have B1 := Lib.hid (below_step B4.out b1)
    clear ho1 b1
    go_wp2_with fail
    refine (back15_any _ rs (by omega) _ V1.out).mono ?_
    rintro e w2 ⟨u, rfl, ho2, b2⟩
    have U2 := Lib.hid (RangesAt.new ho2)
    have B2 := Lib.hid (below_step B1.out b2)
    clear ho2 b2
    go_wp2_with fail
    refine (E4 _).mono ?_
    rintro e w3 ⟨x, rfl, ho3, b3⟩
    have X3 := Lib.hid (RangesAt.new ho3)
    have U3 := Lib.hid (U2.out.later b3)
    have B3 := Lib.hid (below_step B2.out b3)
    clear ho3 b3
    go_wp2_with fail
    refine (eqRef_same u x rs (by omega) _ U3.out X3.out).mono ?_
    rintro e w4 ⟨rfl, b4⟩
    have B4 := Lib.hid (below_step B3.out b4)
    clear b4
    go_wp2_with fail
    go_ret
    exact ⟨rfl, B4.out⟩
end Go.Proofs.Ytpghiebedjogpaa
