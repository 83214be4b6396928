/- The reference's sum of vectors. -/
import Derived.Test.YtnojcgikgngniaaVecS
import Derived.RegionTactic
import Derived.ChangeAlike
namespace Go.Proofs.Ytnojcgikgngniaa
open Go.RowKit
def zeros (n : Nat) : List Int := List.replicate n 0
theorem addL_zeros (z : List Int) (h : ∀ x ∈ z, Word x) : addL (zeros z.length) z = z := by
  unfold addL zeros
  induction z with
  | nil => rfl
  | cons x xs ih =>
    simp only [List.length_cons, List.replicate_succ, List.zipWith_cons_cons]
    rw [ih (fun y hy => h y (by simp [hy]))]
    have := h x (by simp)
    unfold Word at this
    congr 1
    unfold wrap64
    omega
theorem elem64 : Elem Try.prog 25 2 (.int .i64 0) 1 8 := ⟨Try.underlying25, info_parts (by kernel_rfl), rfl, by decide⟩
theorem made_zeros {w : World} {n : Nat} (hm : n ≤ maxLen) : (w.alloc (.cells (madeCells #[.int .i64 0] n) 2)).ownsRow w.heap.size 2 1 (.slice (some ⟨w.heap.size, 0, none⟩) n n) n ((zeros n).map (Value.int .i64)) := by
  have h := owns_made (w := w) (base := w.heap.size) (e := 2) (size := 1) (n := n) (u := .int .i64 0) (z := #[.int .i64 0]) rfl (by decide) (Nat.le_refl _) hm
  rw [Nat.mul_one] at h
  unfold zeros
  rw [List.map_replicate]
  exact h
theorem foldl_zeros_len (n : Nat) (l : List (List Int)) (h : ∀ y ∈ l, y.length = n) : (l.foldl addL (zeros n)).length = n := by
  have := foldl_addL_length (zeros n) l (by simp only [alike, List.all_eq_true, decide_eq_true_eq]; intro y hy; rw [h y hy]; simp [zeros])
  simpa [zeros] using this
set_option maxHeartbeats 2000000 in
theorem refSum_any (v : Value) (zss : List (List Int)) (hl : zss.length ≤ maxLen) (hm : ∀ zs ∈ zss, zs.length * 8 ≤ 140737488351232) (hw : ∀ zs ∈ zss, ∀ z ∈ zs, Word z) (n₀ : Nat) (w : World) (h0 : n₀ ≤ w.heap.size) (hv : RowsAt .i64 n₀ w v zss) :
    Calls Try.prog 13 #[v] w (SumIs zss w) := by
  unfold maxLen at hl
  cases zss with
  | nil =>
    obtain ⟨a, c, rfl⟩ := hv.value
    clear hv
    go_enter Try.func13, Try.ntmps13
    go_wp2
    go_ret2
    exact ⟨_, rfl, World.ownsRow_nil _ _ _ _, Below.refl _ _⟩
  | cons z r =>
    rcases hv.form with ⟨_, e0⟩ | ⟨b, off, c', rfl, hcap, hg, hcs⟩
    · cases e0
    have HM := Lib.hid hm
    have HW := Lib.hid hw
    obtain ⟨a0, cz, hc0, hI0⟩ := hcs 0 (by simp)
    simp only [List.getElem?_cons_zero, Option.getD_some, Nat.add_zero] at hc0 hI0
    have hz8 := hm z (by simp)
    have hmk := run_make_elem elem64 .i64 .i64 z.length (by omega) (by omega)
    have MZ := Lib.hid (made_zeros (w := w) (n := z.length) (by unfold maxLen; omega))
    have HV := Lib.hid hcs
    clear hm hw hcs hI0 hv
    simp only [List.length_cons] at hl hcap ⊢
    have g1 : ((r.length : Int) + 1 == 0) = false := by simp; omega
    have B0 := (Below.refl w.heap.size w).alloc (Nat.le_refl _) (.cells (madeCells #[.int .i64 0] z.length) 2)
    go_enter Try.func13, Try.ntmps13
    go_wp2
    have HZ := Lib.hid (And.intro MZ.out B0)
    clear MZ B0 hmk
    generalize hN : w.heap.size = N at *
    generalize w.alloc (.cells (madeCells #[.int .i64 0] z.length) 2) = W0 at *
    have hNN : N + 1 ≤ W0.heap.size := by
      have h := HZ.out.1.lt N rfl
      omega
    have hgN : b < N := by omega
    go_loopw [5, 6] (fun i _ wr => ∃ k : Nat, k ≤ r.length + 1 ∧ i = .int .i64 k ∧ (∀ y ∈ (z :: r).take k, y.length = z.length) ∧ wr.ownsRow N 2 1 (.slice (some ⟨N, 0, none⟩) z.length z.length) z.length ((((z :: r).take k).foldl addL (zeros z.length)).map (Value.int .i64)) ∧ Below N w wr) (fun i _ _ => r.length + 1 - (intOf i).toNat)
    case atStart => exact ⟨0, Nat.zero_le _, rfl, by simp, HZ.out.1, HZ.out.2⟩
    case round =>
      obtain ⟨k, hk, rfl, ha, ov, hB⟩ := hrel
      have hfl := foldl_zeros_len z.length ((z :: r).take k) ha
      by_cases hlt : k < r.length + 1
      · obtain ⟨a, c, hc, hI⟩ := HV.out k (by simpa using hlt)
        have hc := (hB.cell (p := ⟨b, off + k, none⟩) hgN).trans hc
        have hy8 := HM.out ((z :: r)[k]?.getD []) (by rw [List.getElem?_eq_getElem (by simpa using hlt)]; exact List.getElem_mem _)
        have HT : Hid (((z :: r).take (k + 1)).foldl addL (zeros z.length) = addL (((z :: r).take k).foldl addL (zeros z.length)) ((z :: r)[k]?.getD [])) := Lib.hid (foldl_take _ _ k (by simpa using hlt))
        have HAS : Hid (((z :: r)[k]?.getD []).length = z.length → ∀ y ∈ (z :: r).take (k + 1), y.length = z.length) := by
          refine Lib.hid (fun h y hy => ?_)
          rw [List.take_add_one, List.getElem?_eq_getElem (by simpa using hlt), List.mem_append] at hy
          rcases hy with hy | hy
          · exact ha y hy
          · rw [List.getElem?_eq_getElem (by simpa using hlt)] at h
            simp only [Option.toList_some, List.mem_singleton] at hy
            rw [hy]; exact h
        have HAN : Hid (((z :: r)[k]?.getD []).length ≠ z.length → alike z r = false) := by
          refine Lib.hid (fun h => ?_)
          cases k with
          | zero => exact absurd rfl h
          | succ k =>
            simp only [List.getElem?_cons_succ] at h
            exact alike_not (by omega) h
        have hI2 := hI.below (hB.mono (by omega))
        clear hI ha
        generalize (z :: r)[k]?.getD [] = y at *
        generalize ((z :: r).take k).foldl addL (zeros z.length) = t at *
        have HI := Lib.hid hI2
        have HFL := Lib.hid hfl
        have OV := Lib.hid ov
        clear hI2 hfl ov
        by_cases hy : y.length = z.length
        · have g3 : ((y.length : Int) != (z.length : Int)) = false := by simp [hy]
          have hy1 : y.length ≤ z.length := by omega
          have hy2 : z.length ≤ y.length := by omega
          have HY := Lib.hid hy
          clear hy
          go_wp2
          obtain ⟨wo, hwo⟩ : ∃ wo : World, wo = wr := ⟨_, rfl⟩
          have HOV : Hid (wo.ownsRow N 2 1 (.slice (some ⟨N, 0, none⟩) z.length z.length) z.length (t.map (Value.int .i64))) := Lib.hid (by rw [hwo]; exact OV.out)
          have HBo : Hid (Below N w wo) := Lib.hid (by rw [hwo]; exact hB)
          have HIo : Hid (IntsW .i64 n₀ wo (.slice a y.length c) y) := Lib.hid (by rw [hwo]; exact HI.out)
          have hco : wo.cell? ⟨b, off + k, none⟩ = some (.slice a y.length c) := by rw [hwo]; exact hc
          clear OV hB HI hc
          subst hwo
          go_loopw [6] (fun i wr => ∃ m : Nat, m ≤ z.length ∧ i = .int .i64 m ∧ wr.ownsRow N 2 1 (.slice (some ⟨N, 0, none⟩) z.length z.length) z.length ((addP t y m).map (Value.int .i64)) ∧ Below N wo wr) (fun i _ => z.length - (intOf i).toNat)
          case atStart => exact ⟨0, Nat.zero_le _, rfl, by rw [addP_zero]; exact HOV.out, Below.refl _ _⟩
          case round =>
            obtain ⟨m, hmm, rfl, ov, hB2⟩ := hrel
            by_cases hlt2 : m < z.length
            · have cv1 := ov.cellAt m (by omega)
              have cf1 := ov.frozenAt m
              rw [List.getElem?_map, addP_get t y m m (by rw [HFL.out, HY.out]) (by rw [HFL.out]; omega) (by rw [HFL.out]; omega), if_neg (by omega)] at cv1
              simp only [Option.map_some] at cv1
              have hset := addP_set t y m (by rw [HFL.out, HY.out]) (by rw [HFL.out]; omega)
              have hc2 := (hB2.cell (p := ⟨b, off + k, none⟩) hgN).trans hco
              rcases HIo.out.forms with ⟨_, _, _, e0⟩ | ⟨b', off', cap', e0, hcap', hg', hcs'⟩
              · have h9 : y.length = 0 := by rw [e0]; rfl
                omega
              cases e0
              have cy := (hB2.cell (p := ⟨b', off' + m, none⟩) (show b' < N by omega)).trans (hcs' m (by omega))
              have HSET := Lib.hid hset
              have ost := ov.stored m (.int .i64 (wrap64 (t[m]?.getD 0 + y[m]?.getD 0)))
              rw [List.set_map_eq, HSET.out] at ost
              have HX := Lib.hid (And.intro ost.1 (hB2.grown ost.2 (by have := hB2.size; have := HBo.out.size; omega) (fun k e => by cases e; exact Nat.le_refl _)))
              clear ost hset ov hcs'
              have i0 : (0 : Int) ≤ (m : Int) := by omega
              have i1 : (m : Int) < (z.length : Int) := by omega
              have i2 : (m : Int) < (y.length : Int) := by omega
              have i3 : (0 : Int) ≤ (k : Int) := by omega
              have i4 : (k : Int) < (r.length : Int) + 1 := by omega
              generalize t[m]?.getD 0 = x1 at *
              generalize y[m]?.getD 0 = x2 at *
              go_wp2
              go_region
              go_wp2
              refine ⟨⟨m + 1, by omega, by go_num, HX.out.1.drew, HX.out.2.drew⟩, ?_⟩
              show z.length - ((m : Int) + 1).toNat < z.length - ((m : Int)).toNat
              omega
            · have hmz : m = z.length := by omega
              subst hmz
              have hall := addP_all t y (by rw [HFL.out, HY.out])
              rw [HFL.out] at hall
              rw [hall, ← HT.out] at ov
              have OV := Lib.hid ov
              have HAA := Lib.hid (HAS.out HY.out)
              clear ov hall
              go_wp2
              refine ⟨⟨k + 1, by omega, by go_num, HAA.out, OV.out, HBo.out.trans hB2⟩, ?_⟩
              show r.length + 1 - ((k : Int) + 1).toNat < r.length + 1 - ((k : Int)).toNat
              omega
        · have g3 : ((y.length : Int) != (z.length : Int)) = true := by simp; omega
          have HY := Lib.hid hy
          clear hy
          have HAF := Lib.hid (HAN.out HY.out)
          go_wp2
          go_ret2
          exact SumIs.no HAF.out (by rw [hN]; exact hB)
      · have hk' : k = r.length + 1 := by omega
        subst hk'
        rw [show (z :: r).take (r.length + 1) = z :: r by rw [List.take_of_length_le]; simp] at ov ha
        have hA : alike z r = true := by
          simp only [alike, List.all_eq_true, decide_eq_true_eq]
          exact fun y hy => ha y (by simp [hy])
        rw [List.foldl_cons, addL_zeros z (HW.out z (by simp))] at ov
        have OV := Lib.hid ov
        have HA := Lib.hid hA
        clear ov ha hA hfl
        go_wp2
        go_ret2
        exact SumIs.yes HA.out (by rw [hN]; exact OV.out) (by rw [hN]; exact hB)
end Go.Proofs.Ytnojcgikgngniaa
