/- Layer 10: slices.Grow of nil, slices.Concat. -/
import Derived.Test.YtcnabebcckbfkaaDoorDecT
import Derived.Test.YtcnabebcckbfkaaDoorAppR
import Derived.Lib.AppendZerosOnto
import Derived.Lib.AppendZeros
namespace Go.Proofs.YtcnabebcckbfkaaDoor
open Go.RowKit
set_option linter.unusedVariables false
theorem elemS : Elem Tryd.prog 51 9 (.string ByteArray.empty) 1 16 := ⟨Tryd.underlying51, info_parts (by kernel_rfl), rfl, by decide⟩
theorem elemV : Elem Tryd.prog 22 2 (.int .i64 0) 1 8 := ⟨Tryd.underlying22, info_parts (by kernel_rfl), rfl, by decide⟩
/-- the slice value u holds the values xs -/
def SrcV (w : World) (u : Value) (xs : List Value) : Prop := (u = .slice none 0 0 ∧ xs = []) ∨ ∃ ad c, u = .slice (some ad) xs.length c ∧ ∀ j y, xs[j]? = some y → w.cell? (ad.add j) = some y
theorem SrcV.later {w w' : World} {u : Value} {xs : List Value} (h : SrcV w u xs) (hb : Below w.heap.size w w') : SrcV w' u xs :=
  h.imp_right fun ⟨ad, c, e, hc⟩ => ⟨ad, c, e, fun j y hj => cell_step hb (hc j y hj)⟩
theorem SrcV.value {w : World} {u : Value} {xs : List Value} (h : SrcV w u xs) : ∃ a c, u = .slice a xs.length c := by
  rcases h with ⟨rfl, rfl⟩ | ⟨ad, c, rfl, _⟩
  · exact ⟨none, 0, rfl⟩
  · exact ⟨_, _, rfl⟩
theorem SrcV.own {w : World} {base n : Nat} {e : TypeId} {v : Value} {xs : List Value} (h : w.ownsRow base e 1 v n xs) : SrcV w v xs := by
  have hl : xs.length = n := by simpa using h.1
  rcases own_src h with h1 | ⟨ad, c, e, hc⟩
  · exact .inl h1
  · exact .inr ⟨ad, c, by rw [hl]; exact e, hc⟩
def totV (xss : List (List Value)) : Nat := xss.flatten.length
theorem flatten_take (xss : List (List Value)) (k : Nat) (h : k < xss.length) : (xss.take (k + 1)).flatten = (xss.take k).flatten ++ xss[k] := by
  have e : xss.take (k + 1) = xss.take k ++ [xss[k]] := by rw [List.take_add_one, List.getElem?_eq_getElem h]; rfl
  rw [e, List.flatten_append]
  simp [List.flatten]
theorem tot_take (xss : List (List Value)) (k : Nat) (h : k < xss.length) : totV (xss.take (k + 1)) = totV (xss.take k) + xss[k].length := by
  unfold totV
  rw [flatten_take xss k h, List.length_append]
theorem tot_le (xss : List (List Value)) (k : Nat) : totV (xss.take k) ≤ totV xss := by
  unfold totV
  have h := congrArg List.length (congrArg List.flatten (List.take_append_drop k xss))
  rw [List.flatten_append, List.length_append] at h
  omega
/-- lists in memory, one after the other -/
def RowsV (w : World) (g m : Nat) (xss : List (List Value)) : Prop := xss.length = m ∧ ∀ k (h : k < xss.length), ∃ u, w.cell? ⟨g, k, none⟩ = some u ∧ SrcV w u xss[k]
set_option maxHeartbeats 2000000 in
set_option maxRecDepth 100000 in
theorem growS_any (n : Nat) (hn : n ≤ 1000000) (w : World) : Calls Tryd.prog 50 #[.slice none 0 0, .int .i64 n] w fun e w' => (∃ v, e = .returned v ∧ w'.ownsRow w.heap.size 9 1 v 0 []) ∧ Below w.heap.size w w' := by
  by_cases h0 : n = 0
  · subst h0
    go_enter Tryd.func50, Tryd.ntmps50
    go_wp2_with fail
    go_ret
    exact ⟨⟨_, rfl, World.ownsRow_nil _ _ _ _⟩, Below.refl _ _⟩
  · obtain ⟨i, hi, hz0, hz1, hz2⟩ := elemS.hi
    have hold : (Builtin.firstCells i.size 0 (.slice none 0 0)).run Tryd.prog w.drew = .ok ([] : List Value).toArray w.drew := run_firstCells_none w.drew i.size 0 0 0
    have hr := fun ty => Lib.run_append_grow_zeros (P := Tryd.prog) w 51 3 ty 9 i (.string ByteArray.empty) .i64 .i64 Tryd.underlying51 Tryd.underlying3 hi hz0 none 0 0 [] hold n (by omega) (by omega) (by omega) (by omega) (by rw [hz2]; omega) (by rw [hz2]; exact growslice_fits (by omega) (by omega))
    rw [Nat.zero_add] at hr
    have hG : grownCap w n 0 9 ≤ maxLen := grownCap_le_maxLen w n 0 9 (by unfold maxLen; omega)
    have hG2 : n ≤ grownCap w n 0 9 := grownCap_ge w n 0 9
    generalize grownCap w n 0 9 = G at *
    have hsz : ((([] : List Value).toArray ++ Builtin.zeroCells (Value.cells (.string ByteArray.empty)) n ++ Builtin.zeroCells (Value.cells (.string ByteArray.empty)) (G - n)) : Array Value).size = G * 1 := by
      rw [Array.size_append, Array.size_append, size_zeroCells, size_zeroCells, elemS.hzs]
      simp
      omega
    generalize (([] : List Value).toArray ++ Builtin.zeroCells (Value.cells (.string ByteArray.empty)) n ++ Builtin.zeroCells (Value.cells (.string ByteArray.empty)) (G - n) : Array Value) = cs at *
    have ho := World.ownsRow_made (base := w.heap.size) (e := 9) (size := 1) w.drew cs G (Nat.le_refl _) hG hsz
    have hb := ((Below.refl w.heap.size w).drew).alloc (Nat.le_refl _) (.cells cs 9)
    have HO := Lib.hid (And.intro ho hb)
    have p0 : ¬ (n : Int) < 0 := by omega
    have p1 : (0 : Int) < (n : Int) := by omega
    have p2 : (n : Int) ≤ 1000000 := by omega
    unfold maxLen at hG
    clear ho hb hsz hold hz0 hz1 hz2 hi
    go_enter Tryd.func50, Tryd.ntmps50
    go_wp2_with (at_builtin; refine Lib.wpList_append_run _ rfl _ _ _ _ rfl _ _ rfl rfl _ _ (hr _) ?_)
    go_ret
    exact ⟨⟨_, rfl, HO.out.1⟩, HO.out.2⟩
set_option maxHeartbeats 2000000 in
theorem concatS_any (g m c : Nat) (xss : List (List Value)) (hm : m ≤ 1000) (hc : m ≤ c) (h1 : ∀ xs ∈ xss, ∀ y ∈ xs, y.oneCell' = true) (ht : totV xss ≤ 1000000) (w : World) (hg : g < w.heap.size) (h : RowsV w g m xss) :
    Calls Tryd.prog 29 #[.slice (some ⟨g, 0, none⟩) m c] w (ClonedTo 9 1 (totV xss) xss.flatten w) := by
  have HR := Lib.hid h
  obtain ⟨hlen, _⟩ := h
  have H1 := Lib.hid h1
  have B0 := Lib.hid (Below.refl w.heap.size w)
  clear h1
  go_enter Tryd.func29, Tryd.ntmps29
  go_wp2_with fail
  go_loopw [3, 5, 11] (fun sv _ iv wr => ∃ k : Nat, k ≤ m ∧ iv = .int .i64 k ∧ sv = .int .i64 (totV (xss.take k) : Nat) ∧ Hid (Below w.heap.size w wr)) (fun _ _ iv _ => m - (intOf iv).toNat)
  case atStart => exact ⟨0, Nat.zero_le _, rfl, rfl, B0⟩
  case round =>
    obtain ⟨k, hk, rfl, rfl, HB⟩ := hrel
    by_cases hlt : k < m
    · obtain ⟨u, c0, hs⟩ := HR.out.2 k (by omega)
      obtain ⟨a, cc, rfl⟩ := hs.value
      have c1 := cell_step HB.out c0
      have e1 := tot_take xss k (by omega)
      have e2 := tot_le xss (k + 1)
      have i0 : (0 : Int) ≤ (k : Int) := by omega
      have i1 : (k : Int) < (m : Int) := by omega
      generalize xss[k].length = l at *
      generalize hT : totV (xss.take (k + 1)) = T' at *
      generalize totV (xss.take k) = T at *
      have i2 : (T : Int) + (l : Int) = (T' : Int) := by omega
      have i3 : (T' : Int) ≤ 1000000 := by omega
      have i4 : ¬ (T' : Int) < 0 := by omega
      clear hs c0 e1 e2
      go_wp2_with fail
      go_roundw
      case rel => exact ⟨k + 1, by omega, by go_num, by rw [hT], HB⟩
      case measure => simp [intOf]; omega
    · have hke : k = m := by omega
      subst hke
      have hall : xss.take k = xss := List.take_of_length_le (by omega)
      have HALL := Lib.hid hall
      rw [hall]
      clear hall
      have HGR := Lib.hid (growS_any (totV xss) ht wr)
      generalize hT : totV xss = T at *
      go_wp2_with fail
      refine HGR.out.mono ?_
      rintro e w2 ⟨⟨v2, rfl, o2⟩, b2⟩
      have X2 := Lib.hid (And.intro (show w2.ownsRow w.heap.size 9 1 v2 (totV (xss.take 0)) (xss.take 0).flatten from owns_mono HB.out.size o2) (HB.out.trans (b2.mono HB.out.size)))
      clear o2 b2 HGR HB
      go_wp2_with fail
      go_loopw [6, 8, 27] (fun sv _ iv w3 => ∃ j : Nat, j ≤ k ∧ iv = .int .i64 j ∧ Hid (w3.ownsRow w.heap.size 9 1 sv (totV (xss.take j)) (xss.take j).flatten ∧ Below w.heap.size w w3)) (fun _ _ iv _ => k - (intOf iv).toNat)
      case atStart => exact ⟨0, Nat.zero_le _, rfl, X2⟩
      case round =>
        clear X2
        obtain ⟨j, hj, rfl, HX⟩ := hrel
        by_cases hlt2 : j < k
        · obtain ⟨u, c0, hs⟩ := HR.out.2 j (by omega)
          have c1 := cell_step HX.out.2 c0
          have HS := Lib.hid (hs.later HX.out.2)
          have hone := H1.out xss[j] (List.getElem_mem _)
          have e1 := tot_take xss j (by omega)
          have e2 := tot_le xss (j + 1)
          have e3 := flatten_take xss j (by omega)
          have HE := Lib.hid (And.intro e1 e3)
          obtain ⟨a, cc, rfl⟩ := hs.value
          have i0 : (0 : Int) ≤ (j : Int) := by omega
          have i1 : (j : Int) < (k : Int) := by omega
          have HON := Lib.hid hone
          have HRO := Lib.hid HX.out.1
          have HBL := Lib.hid HX.out.2
          clear hs c0 e3 hone HX
          generalize hX : xss[j] = xs at *
          have i5 : totV (xss.take j) + xs.length ≤ 1000000 := by omega
          clear e1 e2
          generalize hTj : totV (xss.take j) = Tj at *
          go_wp2_with (at_builtin; refine append_list elemS rfl _ _ rfl rfl rfl HRO.out (by simp) HS.out HON.out ?_ ?_ HBL.out.size ?_; (unfold maxLen; omega); omega; intro v' w4 ho' hg'; have O4 := Lib.hid ho'; have B4 := Lib.hid (HBL.out.grown hg' HBL.out.size (fun q e => (HRO.out.lt q e).1)); clear ho' hg')
          go_roundw
          case rel => exact ⟨j + 1, by omega, by go_num, Lib.hid ⟨by rw [HE.out.1, HE.out.2]; exact O4.out, B4.out⟩⟩
          case measure => simp [intOf]; omega
        · have hje : j = k := by omega
          subst hje
          rw [HALL.out] at HX
          obtain ⟨a, cc, rfl⟩ := own_value HX.out.1
          go_wp2_with fail
          go_ret
          rw [← hT]
          exact ⟨_, rfl, HX.out.1, HX.out.2⟩
set_option maxHeartbeats 2000000 in
set_option maxRecDepth 100000 in
theorem growV_any (n : Nat) (hn : n ≤ 1000000) (w : World) : Calls Tryd.prog 76 #[.slice none 0 0, .int .i64 n] w fun e w' => (∃ v, e = .returned v ∧ w'.ownsRow w.heap.size 2 1 v 0 []) ∧ Below w.heap.size w w' := by
  by_cases h0 : n = 0
  · subst h0
    go_enter Tryd.func76, Tryd.ntmps76
    go_wp2_with fail
    go_ret
    exact ⟨⟨_, rfl, World.ownsRow_nil _ _ _ _⟩, Below.refl _ _⟩
  · obtain ⟨i, hi, hz0, hz1, hz2⟩ := elemV.hi
    have hold : (Builtin.firstCells i.size 0 (.slice none 0 0)).run Tryd.prog w.drew = .ok ([] : List Value).toArray w.drew := run_firstCells_none w.drew i.size 0 0 0
    have hr := fun ty => Lib.run_append_grow_zeros (P := Tryd.prog) w 22 3 ty 2 i (.int .i64 0) .i64 .i64 Tryd.underlying22 Tryd.underlying3 hi hz0 none 0 0 [] hold n (by omega) (by omega) (by omega) (by omega) (by rw [hz2]; omega) (by rw [hz2]; exact growslice_fits (by omega) (by omega))
    rw [Nat.zero_add] at hr
    have hG : grownCap w n 0 2 ≤ maxLen := grownCap_le_maxLen w n 0 2 (by unfold maxLen; omega)
    have hG2 : n ≤ grownCap w n 0 2 := grownCap_ge w n 0 2
    generalize grownCap w n 0 2 = G at *
    have hsz : ((([] : List Value).toArray ++ Builtin.zeroCells (Value.cells (.int .i64 0)) n ++ Builtin.zeroCells (Value.cells (.int .i64 0)) (G - n)) : Array Value).size = G * 1 := by
      rw [Array.size_append, Array.size_append, size_zeroCells, size_zeroCells, elemV.hzs]
      simp
      omega
    generalize (([] : List Value).toArray ++ Builtin.zeroCells (Value.cells (.int .i64 0)) n ++ Builtin.zeroCells (Value.cells (.int .i64 0)) (G - n) : Array Value) = cs at *
    have ho := World.ownsRow_made (base := w.heap.size) (e := 2) (size := 1) w.drew cs G (Nat.le_refl _) hG hsz
    have hb := ((Below.refl w.heap.size w).drew).alloc (Nat.le_refl _) (.cells cs 2)
    have HO := Lib.hid (And.intro ho hb)
    have p0 : ¬ (n : Int) < 0 := by omega
    have p1 : (0 : Int) < (n : Int) := by omega
    have p2 : (n : Int) ≤ 1000000 := by omega
    unfold maxLen at hG
    clear ho hb hsz hold hz0 hz1 hz2 hi
    go_enter Tryd.func76, Tryd.ntmps76
    go_wp2_with (at_builtin; refine Lib.wpList_append_run _ rfl _ _ _ _ rfl _ _ rfl rfl _ _ (hr _) ?_)
    go_ret
    exact ⟨⟨_, rfl, HO.out.1⟩, HO.out.2⟩
set_option maxHeartbeats 2000000 in
theorem concatV_any (g m c : Nat) (xss : List (List Value)) (hm : m ≤ 1000) (hc : m ≤ c) (h1 : ∀ xs ∈ xss, ∀ y ∈ xs, y.oneCell' = true) (ht : totV xss ≤ 1000000) (w : World) (hg : g < w.heap.size) (h : RowsV w g m xss) :
    Calls Tryd.prog 64 #[.slice (some ⟨g, 0, none⟩) m c] w (ClonedTo 2 1 (totV xss) xss.flatten w) := by
  have HR := Lib.hid h
  obtain ⟨hlen, _⟩ := h
  have H1 := Lib.hid h1
  have B0 := Lib.hid (Below.refl w.heap.size w)
  clear h1
  go_enter Tryd.func64, Tryd.ntmps64
  go_wp2_with fail
  go_loopw [3, 5, 11] (fun sv _ iv wr => ∃ k : Nat, k ≤ m ∧ iv = .int .i64 k ∧ sv = .int .i64 (totV (xss.take k) : Nat) ∧ Hid (Below w.heap.size w wr)) (fun _ _ iv _ => m - (intOf iv).toNat)
  case atStart => exact ⟨0, Nat.zero_le _, rfl, rfl, B0⟩
  case round =>
    obtain ⟨k, hk, rfl, rfl, HB⟩ := hrel
    by_cases hlt : k < m
    · obtain ⟨u, c0, hs⟩ := HR.out.2 k (by omega)
      obtain ⟨a, cc, rfl⟩ := hs.value
      have c1 := cell_step HB.out c0
      have e1 := tot_take xss k (by omega)
      have e2 := tot_le xss (k + 1)
      have i0 : (0 : Int) ≤ (k : Int) := by omega
      have i1 : (k : Int) < (m : Int) := by omega
      generalize xss[k].length = l at *
      generalize hT : totV (xss.take (k + 1)) = T' at *
      generalize totV (xss.take k) = T at *
      have i2 : (T : Int) + (l : Int) = (T' : Int) := by omega
      have i3 : (T' : Int) ≤ 1000000 := by omega
      have i4 : ¬ (T' : Int) < 0 := by omega
      clear hs c0 e1 e2
      go_wp2_with fail
      go_roundw
      case rel => exact ⟨k + 1, by omega, by go_num, by rw [hT], HB⟩
      case measure => simp [intOf]; omega
    · have hke : k = m := by omega
      subst hke
      have hall : xss.take k = xss := List.take_of_length_le (by omega)
      have HALL := Lib.hid hall
      rw [hall]
      clear hall
      have HGR := Lib.hid (growV_any (totV xss) ht wr)
      generalize hT : totV xss = T at *
      go_wp2_with fail
      refine HGR.out.mono ?_
      rintro e w2 ⟨⟨v2, rfl, o2⟩, b2⟩
      have X2 := Lib.hid (And.intro (show w2.ownsRow w.heap.size 2 1 v2 (totV (xss.take 0)) (xss.take 0).flatten from owns_mono HB.out.size o2) (HB.out.trans (b2.mono HB.out.size)))
      clear o2 b2 HGR HB
      go_wp2_with fail
      go_loopw [6, 8, 27] (fun sv _ iv w3 => ∃ j : Nat, j ≤ k ∧ iv = .int .i64 j ∧ Hid (w3.ownsRow w.heap.size 2 1 sv (totV (xss.take j)) (xss.take j).flatten ∧ Below w.heap.size w w3)) (fun _ _ iv _ => k - (intOf iv).toNat)
      case atStart => exact ⟨0, Nat.zero_le _, rfl, X2⟩
      case round =>
        clear X2
        obtain ⟨j, hj, rfl, HX⟩ := hrel
        by_cases hlt2 : j < k
        · obtain ⟨u, c0, hs⟩ := HR.out.2 j (by omega)
          have c1 := cell_step HX.out.2 c0
          have HS := Lib.hid (hs.later HX.out.2)
          have hone := H1.out xss[j] (List.getElem_mem _)
          have e1 := tot_take xss j (by omega)
          have e2 := tot_le xss (j + 1)
          have e3 := flatten_take xss j (by omega)
          have HE := Lib.hid (And.intro e1 e3)
          obtain ⟨a, cc, rfl⟩ := hs.value
          have i0 : (0 : Int) ≤ (j : Int) := by omega
          have i1 : (j : Int) < (k : Int) := by omega
          have HON := Lib.hid hone
          have HRO := Lib.hid HX.out.1
          have HBL := Lib.hid HX.out.2
          clear hs c0 e3 hone HX
          generalize hX : xss[j] = xs at *
          have i5 : totV (xss.take j) + xs.length ≤ 1000000 := by omega
          clear e1 e2
          generalize hTj : totV (xss.take j) = Tj at *
          go_wp2_with (at_builtin; refine append_list elemV rfl _ _ rfl rfl rfl HRO.out (by simp) HS.out HON.out ?_ ?_ HBL.out.size ?_; (unfold maxLen; omega); omega; intro v' w4 ho' hg'; have O4 := Lib.hid ho'; have B4 := Lib.hid (HBL.out.grown hg' HBL.out.size (fun q e => (HRO.out.lt q e).1)); clear ho' hg')
          go_roundw
          case rel => exact ⟨j + 1, by omega, by go_num, Lib.hid ⟨by rw [HE.out.1, HE.out.2]; exact O4.out, B4.out⟩⟩
          case measure => simp [intOf]; omega
        · have hje : j = k := by omega
          subst hje
          rw [HALL.out] at HX
          obtain ⟨a, cc, rfl⟩ := own_value HX.out.1
          go_wp2_with fail
          go_ret
          rw [← hT]
          exact ⟨_, rfl, HX.out.1, HX.out.2⟩
end Go.Proofs.YtcnabebcckbfkaaDoor
