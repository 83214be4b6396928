/- Layer 10: DataPicks. -/
import Derived.Test.YtcnabebcckbfkaaDoorDatA
import Derived.Test.YtcnabebcckbfkaaDoorDatV
import Derived.Deep.Cut
namespace Go.Proofs.YtcnabebcckbfkaaDoor
open Go.RowKit
set_option linter.unusedVariables false
/-- a later world in which only blocks from N up to N' have changed -/
def Mut (N N' : Nat) (w wr : World) : Prop := Below N w wr ∧ ∀ k, N' ≤ k → k < w.heap.size → wr.heap[k]? = w.heap[k]?
theorem Mut.refl (N N' : Nat) (w : World) : Mut N N' w w := ⟨Below.refl N w, fun _ _ _ => rfl⟩
theorem Mut.set {N N' g o : Nat} {w wr : World} {x : Value} (h : Mut N N' w wr) (h1 : N ≤ g) (h2 : g < N') : Mut N N' w (wr.setCell ⟨g, o, none⟩ x) :=
  ⟨below_set h.1 h1, fun k hk hw => (Below.heap_setCell _ _ _ _ (fun e => by have e' : k = g := e; omega)).trans (h.2 k hk hw)⟩
theorem Mut.row {N N' size n : Nat} {e : TypeId} {v : Value} {xs : List Value} {w wr : World} (h : Mut N N' w wr) (ho : w.ownsRow N' e size v n xs) : wr.ownsRow N' e size v n xs := by
  refine ⟨ho.1, ?_⟩
  rcases ho.2 with hn | ⟨g, cap, cur, rfl, hb, hg, hr⟩
  · exact .inl hn
  · exact .inr ⟨g, cap, cur, rfl, hb, (h.2 g hb (lt_of_block hg)).trans hg, hr⟩
/-- the copies as they are changed: each of their rows is still a row of integers -/
def Rows (N : Nat) (w : World) (cells : List Value) : Prop := ∀ (i : Nat) (u : Value), cells[i]? = some u → ∃ zs : List Int, w.ownsRow N 2 1 u zs.length (intsV zs)
def InB (N N' : Nat) (cells : List Value) : Prop := ∀ (i : Nat) (u : Value), cells[i]? = some u → ∀ q, u.ownBlock = some q → N ≤ q ∧ q < N'
theorem PairsO.cell {N : Nat} {w : World} {cells : List Value} {es : List Ex} {k i : Nat} {u : Value} (h : PairsO N w cells es k) (hu : cells[i]? = some u) : ∃ zs : List Int, w.ownsRow N 2 1 u zs.length (intsV zs) := by
  have hi : i < cells.length := by
    apply Nat.lt_of_not_le; intro hge
    rw [List.getElem?_eq_none hge] at hu; cases hu
  rw [h.1] at hi
  obtain ⟨vx, vy, h1, h2, h3, h4⟩ := h.2 (i / 2) (by omega)
  rcases (show i = i / 2 * 2 ∨ i = i / 2 * 2 + 1 by omega) with e | e
  · rw [e, h1] at hu; cases hu; exact ⟨_, h3⟩
  · rw [e, h2] at hu; cases hu; exact ⟨_, h4⟩
theorem PairsO.rows {N : Nat} {w : World} {cells : List Value} {es : List Ex} {k : Nat} (h : PairsO N w cells es k) : Rows N w cells ∧ InB N w.heap.size cells :=
  ⟨fun i u hu => h.cell hu, fun i u hu q hq => by obtain ⟨zs, ho⟩ := h.cell hu; exact ho.lt q hq⟩
theorem Rows.later {N : Nat} {w w' : World} {cells : List Value} (h : Rows N w cells) (hb : Below w.heap.size w w') : Rows N w' cells := fun i u hu => by obtain ⟨zs, ho⟩ := h i u hu; exact ⟨zs, own_below ho hb⟩
theorem Rows.set {N g k : Nat} {w : World} {cells : List Value} {z : Int} (h : Rows N w cells) : Rows N (w.setCell ⟨g, k, none⟩ (.int .i64 z)) cells := fun i u hu => by
  obtain ⟨zs, ho⟩ := h i u hu
  by_cases e : u.ownBlock = some g
  · rcases ho.2 with ⟨rfl, _⟩ | ⟨g', cap, cur, rfl, _⟩
    · cases e
    · obtain rfl : g' = g := by cases e; rfl
      refine ⟨zs.set k z, ?_⟩
      have h1 := (ho.stored k (.int .i64 z)).1
      rw [List.length_set]
      unfold intsV at h1 ⊢
      rwa [← List.map_set] at h1
  · exact ⟨zs, ho.kept (grown_set w g k (.int .i64 z)) (.inr e)⟩
def Copies (N N' : Nat) (w0 : World) (v : Value) (n : Nat) (cells : List Value) (wr : World) : Prop := wr.ownsRow N 24 2 v n cells ∧ Rows N wr cells ∧ Mut N N' w0 wr
theorem Copies.set {N N' g k i n : Nat} {w0 wr : World} {v u : Value} {cells : List Value} {z : Int} (h : Copies N N' w0 v n cells wr) (hi : InB N N' cells) (hu : cells[i]? = some u) (hg : u.ownBlock = some g) : Copies N N' w0 v n cells (wr.setCell ⟨g, k, none⟩ (.int .i64 z)) := by
  obtain ⟨zs, ho⟩ := h.2.1 i u hu
  refine ⟨h.1.kept (grown_set wr g k (.int .i64 z)) ?_, h.2.1.set, h.2.2.set (hi i u hu g hg).1 (hi i u hu g hg).2⟩
  rw [← hg]
  exact rows_apart h.1 ho (by decide)
/-- whether all indices are there, and the examples that they name -/
def Res (es : List Ex) (xs : List Int) (okb : Bool) (ps : List Ex) : Prop := (okb = true ∧ okP es xs ∧ ps = pickD es xs) ∨ (okb = false ∧ ¬ okP es xs ∧ ps = [])
theorem Res.unique {es : List Ex} {xs : List Int} {o1 o2 : Bool} {p1 p2 : List Ex} (h1 : Res es xs o1 p1) (h2 : Res es xs o2 p2) : o1 = o2 ∧ p1 = p2 := by
  rcases h1 with ⟨rfl, a, rfl⟩ | ⟨rfl, a, rfl⟩ <;> rcases h2 with ⟨rfl, b, rfl⟩ | ⟨rfl, b, rfl⟩
  · exact ⟨rfl, rfl⟩
  · exact absurd a b
  · exact absurd b a
  · exact ⟨rfl, rfl⟩
theorem Res.bounds {es : List Ex} {xs : List Int} {o : Bool} {ps : List Ex} (h : Res es xs o ps) (hx : xs.length ≤ 1000) (hl : ∀ k, k < es.length → (exAt es k).1.length ≤ 1000000 ∧ (exAt es k).2.length ≤ 1000000) : ps.length ≤ 1000 ∧ ∀ k, k < ps.length → (exAt ps k).1.length ≤ 1000000 ∧ (exAt ps k).2.length ≤ 1000000 := by
  rcases h with ⟨_, a, rfl⟩ | ⟨_, _, rfl⟩
  · rw [pickD_length]
    refine ⟨hx, fun k hk => ?_⟩
    rw [pickD_at es xs k hk]
    have := a k hk
    exact hl _ (by omega)
  · exact ⟨by simp, fun k hk => absurd hk (Nat.not_lt_zero k)⟩
theorem PickedC.out {es : List Ex} {xs : List Int} {w : World} {e : Ending} {w' : World} (h : PickedC es xs w e w') : ∃ okb ps v cells, e = .returned (.tuple #[v, .bool okb]) ∧ Hid (Res es xs okb ps ∧ w'.ownsRow w.heap.size 24 2 v ps.length cells ∧ PairsO w.heap.size w' cells ps ps.length ∧ Below w.heap.size w w') := by
  rcases h with ⟨a, v, cells, rfl, h1, h2, h3⟩ | ⟨a, v, rfl, h1, h2⟩
  · exact ⟨true, pickD es xs, v, cells, rfl, Lib.hid ⟨.inl ⟨rfl, a, rfl⟩, by rw [pickD_length]; exact h1, by rw [pickD_length]; exact h2, h3⟩⟩
  · exact ⟨false, [], v, [], rfl, Lib.hid ⟨.inr ⟨rfl, a, rfl⟩, h1, PairsO.nil _ _ _, h2⟩⟩
theorem PickedN.out {n₀ : Nat} {es : List Ex} {xs : List Int} {w : World} {e : Ending} {w' : World} (h : PickedN n₀ es xs w e w') : ∃ okb ps v cells, e = .returned (.tuple #[v, .bool okb]) ∧ Hid (Res es xs okb ps ∧ w'.ownsRow w.heap.size 24 2 v ps.length cells ∧ PairsA n₀ w' cells ps ps.length ∧ Below w.heap.size w w') := by
  rcases h with ⟨a, v, cells, rfl, h1, h2, h3⟩ | ⟨a, rfl, h1⟩
  · exact ⟨true, pickD es xs, v, cells, rfl, Lib.hid ⟨.inl ⟨rfl, a, rfl⟩, by rw [pickD_length]; exact h1, by rw [pickD_length]; exact h2, h3⟩⟩
  · exact ⟨false, [], .slice none 0 0, [], rfl, Lib.hid ⟨.inr ⟨rfl, a, rfl⟩, World.ownsRow_nil _ _ _ _, PairsA.nil _ _ _, h1⟩⟩
theorem PairsO.mut {N N' : Nat} {w wr : World} {cells : List Value} {es : List Ex} {k : Nat} (h : PairsO N' w cells es k) (hm : Mut N N' w wr) : PairsO N' wr cells es k :=
  ⟨h.1, fun j hj => by obtain ⟨vx, vy, h1, h2, h3, h4⟩ := h.2 j hj; exact ⟨vx, vy, h1, h2, hm.row h3, hm.row h4⟩⟩
set_option maxHeartbeats 8000000 in
set_option maxRecDepth 8000 in
theorem walk_picks (v u : Value) (es : List Ex) (xs : List Int) (hm : es.length ≤ maxLen) (hm2 : xs.length ≤ maxLen) (w : World) (ht : Pow10 w) (hv : ExsAt w.heap.size w v es) (hu : IntsW .i64 w.heap.size w u xs) :
    Calls Tryd.prog 6 #[v, u] w fun e w' => e = .returned (.bool true) ∧ Below w.heap.size w w' := by
  have HF := Lib.hid (fewX_any v es hm w hv)
  unfold FewX at HF
  have HA := Lib.hid (fun W (hW : Below w.heap.size w W) => alive10_any W (ht.later hW))
  obtain ⟨a, c, rfl⟩ := hv.value
  obtain ⟨a2, c2, rfl⟩ := hu.value
  have HV := Lib.hid hv
  have HU := Lib.hid hu
  clear hv hu ht
  generalize hN : w.heap.size = N0 at *
  go_enter Tryd.func6, Tryd.ntmps6
  go_wp2_with fail
  refine HF.out.mono ?_
  rintro e w1 ⟨⟨b, rfl, hb⟩, b1⟩
  have B1 := Lib.hid b1
  have HFB := Lib.hid hb
  clear HF b1 hb
  cases b
  · go_wp2_with fail
    refine (HA.out _ B1.out).mono ?_
    rintro e w2 ⟨rfl, b2⟩
    have B2 := B1.out.trans (b2.mono (by have := B1.out.size; omega))
    clear B1 b2 HA
    go_wp2_with fail
    go_ret
    exact ⟨rfl, by first | exact B2 | (rw [hN]; exact B2)⟩
  · obtain ⟨h60, hlens⟩ := HFB.out rfl
    have HL := Lib.hid (fun k (hk : k < es.length) => (show (exAt es k).1.length ≤ 1000000 ∧ (exAt es k).2.length ≤ 1000000 by have := hlens k hk; omega))
    clear HFB hlens hm
    by_cases h100 : (100 : Int) < (xs.length : Int)
    · have g1 : decide ((100 : Int) < (xs.length : Int)) = true := by simpa using h100
      go_wp2_with fail
      refine (HA.out _ B1.out).mono ?_
      rintro e w2 ⟨rfl, b2⟩
      have B2 := B1.out.trans (b2.mono (by have := B1.out.size; omega))
      clear B1 b2 HA
      go_wp2_with fail
      go_ret
      exact ⟨rfl, by first | exact B2 | (rw [hN]; exact B2)⟩
    · have g1 : decide ((100 : Int) < (xs.length : Int)) = false := by simpa using h100
      have hx100 : xs.length ≤ 1000 := by omega
      have n1 : N0 ≤ w1.heap.size := by have := B1.out.size; omega
      have HC := Lib.hid (refCloneX_any _ es (by omega) HL.out w1 ((HV.out.below B1.out).grow n1))
      clear hm2
      go_wp2_with fail
      refine HC.out.mono ?_
      rintro e w2 h2
      obtain ⟨ov, cells, rfl, h3⟩ := h2.out
      clear h2 HC
      generalize hNN : w1.heap.size = N at *
      have n2 : N ≤ w2.heap.size := by have := h3.out.2.2.size; omega
      have B2 := Lib.hid (B1.out.trans (h3.out.2.2.mono n1))
      have HE2 := Lib.hid (h3.out.2.1.pairsA.exs h3.out.1 (Nat.le_refl _))
      have HP := Lib.hid (pick_any ov _ es xs (by omega) hx100 HL.out w2 HE2.out ((HU.out.below B2.out).grow (by omega)))
      obtain ⟨oa, oc, rfl⟩ := own_value h3.out.1
      have HRW := Lib.hid h3.out.2.1.rows
      have HO := Lib.hid h3.out.1
      clear h3 B1 HE2
      generalize hN' : w2.heap.size = N' at *
      go_wp2_with fail
      refine HP.out.mono ?_
      rintro e w3 h4
      have H4 := Lib.hid h4
      clear HP h4
      obtain ⟨okb, ps, xv, xc, rfl, H5⟩ := H4.out.out
      have n3 : N' ≤ w3.heap.size := by have := H5.out.2.2.2.size; omega
      have B3 := Lib.hid (B2.out.trans (H5.out.2.2.2.mono (by omega)))
      have HR := Lib.hid (refPickN_any N0 _ _ es xs (by omega) hx100 w3 (by omega) (HV.out.below B3.out) ((HU.out.below B3.out).grow (by omega)))
      have HRB := Lib.hid (H5.out.1.bounds hx100 HL.out)
      have HRES := Lib.hid H5.out.1
      have HX3 := Lib.hid (And.intro H5.out.2.1 H5.out.2.2.1)
      have HO3 := Lib.hid (own_below HO.out (show Below w2.heap.size w2 w3 by rw [hN']; exact (by have h := H5.out.2.2.2; rw [hN'] at h; exact h)))
      have HRW3 := Lib.hid (HRW.out.1.later (show Below w2.heap.size w2 w3 by rw [hN']; exact (by have h := H5.out.2.2.2; rw [hN'] at h; exact h)))
      rw [hN'] at HX3
      have HIB := Lib.hid HRW.out.2
      obtain ⟨xa, xcc, rfl⟩ := own_value HX3.out.1
      clear H4 H5 B2 HO HRW
      go_wp2_with fail
      refine HR.out.mono ?_
      rintro e w4 h6
      obtain ⟨okb', ps', wv, wc, rfl, H6⟩ := h6.out
      obtain ⟨rfl, rfl⟩ := HRES.out.unique H6.out.1
      clear h6 HR
      have B4 := Lib.hid (B3.out.trans (H6.out.2.2.2.mono (by omega)))
      have HX4 := Lib.hid (And.intro (own_below HX3.out.1 H6.out.2.2.2) (HX3.out.2.later H6.out.2.2.2))
      have HW4 := Lib.hid (And.intro (owns_mono n3 H6.out.2.1) H6.out.2.2.1)
      have X0 := Lib.hid (show Copies N N' w4 (.slice oa es.length oc) es.length cells w4 from ⟨own_below HO3.out H6.out.2.2.2, HRW3.out.later H6.out.2.2.2, Mut.refl _ _ _⟩)
      have n4 : N' ≤ w4.heap.size := by have := H6.out.2.2.2.size; omega
      obtain ⟨wa, wcc, rfl⟩ := own_value HW4.out.1
      clear H6 HX3 HO3 HRW3 B3
      go_wp2_with fail
      go_loopw [10, 11, 12, 38] (fun _ _ _ iv wr => ∃ k : Nat, k ≤ es.length ∧ iv = .int .i64 k ∧ Hid (Copies N N' w4 (.slice oa es.length oc) es.length cells wr)) (fun _ _ _ iv _ => es.length - (intOf iv).toNat)
      case atStart => exact ⟨0, Nat.zero_le _, rfl, X0⟩
      case round =>
        clear X0
        obtain ⟨k, hk, rfl, HX⟩ := hrel
        by_cases hlt : k < es.length
        · obtain ⟨gb, bc, e, _, _⟩ := own_some HX.out.1 (by omega)
          simp only [Value.slice.injEq] at e
          obtain ⟨rfl, _, rfl⟩ := e
          have k0 : (0 : Int) ≤ (k : Int) := by omega
          have k1 : (k : Int) < (es.length : Int) := by omega
          have k2 : k ≤ 60 := by omega
          obtain ⟨ux, hcx⟩ : ∃ u, cells[(k * 2)]? = some u := ⟨_, List.getElem?_eq_getElem (by have := HX.out.1.1; omega)⟩
          obtain ⟨zs0, ho0⟩ := HX.out.2.1 _ _ hcx
          obtain ⟨gax, gcx, rfl⟩ := own_value ho0
          have hlenx : zs0.length ≤ maxLen := by
            rcases ho0.2 with ⟨_, h0⟩ | ⟨_, _, _, _, _, _, h1, h2, _⟩
            · rw [h0]; exact Nat.zero_le _
            · exact Nat.le_trans h1 h2
          have dc := (HX.out.1.cellAt (k * 2) (by omega)).trans hcx
          have X1 := HX
          unfold maxLen at hlenx
          clear ho0 HX
          go_wp2_with fail
          generalize wr = wox at *
          go_loopw [11, 47] (fun _ iv w5 => ∃ j : Nat, j ≤ zs0.length ∧ iv = .int .i64 j ∧ Hid (Copies N N' w4 (.slice (some ⟨gb, 0, none⟩) es.length oc) es.length cells w5)) (fun _ iv _ => zs0.length - (intOf iv).toNat)
          case atStart => exact ⟨0, Nat.zero_le _, rfl, X1⟩
          case round =>
            clear X1 dc
            obtain ⟨j, hj, rfl, HY⟩ := hrel
            have dc := (HY.out.1.cellAt (k * 2) (by omega)).trans hcx
            by_cases hltx : j < zs0.length
            · obtain ⟨zs1, ho1⟩ := HY.out.2.1 _ _ hcx
              obtain ⟨a', c', e⟩ := own_value ho1
              have hz1 : zs1.length = zs0.length := by simp only [Value.slice.injEq] at e; exact e.2.1.symm
              clear e
              rw [hz1] at ho1
              obtain ⟨g, cg, e, hg1, hg2⟩ := own_some ho1 (by omega)
              simp only [Value.slice.injEq] at e
              obtain ⟨rfl, _, rfl⟩ := e
              have cz := ho1.cellAt j (by omega)
              have cf := ho1.frozenAt j
              have cz' : (intsV zs1)[j]? = some (.int .i64 (zs1[j]?.getD 0)) := by
                unfold intsV
                rw [List.getElem?_map, List.getElem?_eq_getElem (by omega)]
                rfl
              rw [cz'] at cz
              have i0 : (0 : Int) ≤ (j : Int) := by omega
              have i1 : (j : Int) < (zs0.length : Int) := by omega
              have X9 := Lib.hid (HY.out.set (k := j) (z := wrap64 (zs1[j]?.getD 0 + 1)) HIB.out hcx rfl)
              clear ho1 cz' HY
              generalize zs1[j]?.getD 0 = z at *
              go_wp2_with fail
              generalize wr.setCell ⟨g, j, none⟩ (.int .i64 (wrap64 (z + 1))) = w6 at *
              try go_wp2_with fail
              go_roundw
              case rel => exact ⟨j + 1, by omega, by go_num, X9⟩
              case measure => simp [intOf]; omega
            · have hje : j = zs0.length := by omega
              subst hje
              have HX := HY
              clear HY
              clear dc
              obtain ⟨uy, hcy⟩ : ∃ u, cells[(k * 2 + 1)]? = some u := ⟨_, List.getElem?_eq_getElem (by have := HX.out.1.1; omega)⟩
              obtain ⟨zt0, ho0⟩ := HX.out.2.1 _ _ hcy
              obtain ⟨gay, gcy, rfl⟩ := own_value ho0
              have hleny : zt0.length ≤ maxLen := by
                rcases ho0.2 with ⟨_, h0⟩ | ⟨_, _, _, _, _, _, h1, h2, _⟩
                · rw [h0]; exact Nat.zero_le _
                · exact Nat.le_trans h1 h2
              have dc := (HX.out.1.cellAt (k * 2 + 1) (by omega)).trans hcy
              have X1 := HX
              unfold maxLen at hleny
              clear ho0 HX
              go_wp2_with fail
              generalize wr = woy at *
              go_loopw [12, 67] (fun _ iv w5 => ∃ j : Nat, j ≤ zt0.length ∧ iv = .int .i64 j ∧ Hid (Copies N N' w4 (.slice (some ⟨gb, 0, none⟩) es.length oc) es.length cells w5)) (fun _ iv _ => zt0.length - (intOf iv).toNat)
              case atStart => exact ⟨0, Nat.zero_le _, rfl, X1⟩
              case round =>
                clear X1 dc
                obtain ⟨j, hj, rfl, HY⟩ := hrel
                have dc := (HY.out.1.cellAt (k * 2 + 1) (by omega)).trans hcy
                by_cases hlty : j < zt0.length
                · obtain ⟨zt1, ho1⟩ := HY.out.2.1 _ _ hcy
                  obtain ⟨a', c', e⟩ := own_value ho1
                  have hz1 : zt1.length = zt0.length := by simp only [Value.slice.injEq] at e; exact e.2.1.symm
                  clear e
                  rw [hz1] at ho1
                  obtain ⟨g, cg, e, hg1, hg2⟩ := own_some ho1 (by omega)
                  simp only [Value.slice.injEq] at e
                  obtain ⟨rfl, _, rfl⟩ := e
                  have cz := ho1.cellAt j (by omega)
                  have cf := ho1.frozenAt j
                  have cz' : (intsV zt1)[j]? = some (.int .i64 (zt1[j]?.getD 0)) := by
                    unfold intsV
                    rw [List.getElem?_map, List.getElem?_eq_getElem (by omega)]
                    rfl
                  rw [cz'] at cz
                  have i0 : (0 : Int) ≤ (j : Int) := by omega
                  have i1 : (j : Int) < (zt0.length : Int) := by omega
                  have X9 := Lib.hid (HY.out.set (k := j) (z := wrap64 (zt1[j]?.getD 0 + 1)) HIB.out hcy rfl)
                  clear ho1 cz' HY
                  generalize zt1[j]?.getD 0 = z at *
                  go_wp2_with fail
                  generalize wr.setCell ⟨g, j, none⟩ (.int .i64 (wrap64 (z + 1))) = w6 at *
                  try go_wp2_with fail
                  go_roundw
                  case rel => exact ⟨j + 1, by omega, by go_num, X9⟩
                  case measure => simp [intOf]; omega
                · have hje : j = zt0.length := by omega
                  subst hje
                  have HX := HY
                  clear HY
                  clear dc
                  go_wp2_with fail
                  go_roundw
                  case rel => exact ⟨k + 1, by omega, by go_num, HX⟩
                  case measure => simp [intOf]; omega
        · have hke : k = es.length := by omega
          subst hke
          have HXR := Lib.hid ((HX4.out.2.mut HX.out.2.2).pairsA.exs (HX.out.2.2.row HX4.out.1) (Nat.le_refl _))
          have nr : w4.heap.size ≤ wr.heap.size := HX.out.2.2.1.size
          have HWR := Lib.hid ((HW4.out.2.below (HX.out.2.2.1.mono (by omega))).exs (HX.out.2.2.row HW4.out.1) (by omega))
          have B5 := Lib.hid (B4.out.trans (HX.out.2.2.1.mono (by omega)))
          have q2 : (okb == okb) = true := by simp
          have n5 : N0 ≤ wr.heap.size := by omega
          clear HX4 HW4 HX B4
          go_wp2_with fail
          refine (HA.out _ B5.out).mono ?_
          rintro e w6 ⟨rfl, b6⟩
          have B6 := Lib.hid (B5.out.trans (b6.mono n5))
          have n6 : N0 ≤ w6.heap.size := by have := b6.size; omega
          have HS := Lib.hid (sameAllX_any _ _ ps HRB.out.1 HRB.out.2 w6 (HXR.out.later b6) (HWR.out.later b6))
          clear B5 b6 HXR HWR HA
          go_wp2_with fail
          refine HS.out.mono ?_
          rintro e w7 ⟨rfl, b7⟩
          have B7 := B6.out.trans (b7.mono n6)
          clear B6 b7 HS
          go_wp2_with fail
          go_ret
          exact ⟨by first | rfl | (simp; done), by first | exact B7 | (rw [hN]; exact B7)⟩
end Go.Proofs.YtcnabebcckbfkaaDoor
