/- Layer 8: the reference's Places. -/
import Derived.Test.YtdnaildhcnekfaaDoorShpS
namespace Go.Proofs.YtdnaildhcnekfaaDoor
open Go.RowKit
set_option linter.unusedVariables false
set_option maxRecDepth 8000 in
set_option maxHeartbeats 4000000 in
theorem refPlaces_any (v : Value) (ss : List Int) (hr : RightH ss) (w : World) (hv : IntsAt .i64 w.heap.size w v ss) :
    Calls Tryd.prog 22 #[v] w fun e w' => ∃ x, e = .returned x ∧ w'.ownsRow w.heap.size 49 3 x (placesL ss (ss.length - 1)).length (pcells (placesL ss (ss.length - 1))) ∧ Below w.heap.size w w' := by
  have h2 := hr.l2
  have h16 := hr.l16
  have hcnt := hr.cnt
  rcases hv.form with ⟨_, e0⟩ | ⟨b, off, cap, rfl, hcap, hb, hcs⟩
  · rw [e0] at h2; simp at h2
  have HCS := Lib.hid hcs
  clear hv hcs
  go_enter Tryd.func22, Tryd.ntmps22
  go_wp2_with fail
  go_loopw [3, 4] (fun v i wr => ∃ (k : Nat) (xs : List (Int × Int × Int)), k < ss.length ∧ i = .int .i64 k ∧ Hid (xs = placesL ss k) ∧ wr.ownsRow w.heap.size 49 3 v xs.length (pcells xs) ∧ Below w.heap.size w wr) (fun _ i _ => ss.length - (intOf i).toNat)
  case atStart => exact ⟨0, [], by omega, rfl, Lib.hid rfl, World.ownsRow_nil _ _ _ _, Below.refl _ _⟩
  case round =>
    obtain ⟨k, xs, hk, rfl, HXS, hrow, hB⟩ := hrel
    have wk : IntKind.i64.wrap ((k : Int) + 1) = ((k + 1 : Nat) : Int) := (IntWalk.i64_in _ (by omega)).trans (by omega)
    have wk2 : (k : Int) + 1 = ((k + 1 : Nat) : Int) := by omega
    by_cases hlt : k + 1 < ss.length
    · have hdec : decide (((k + 1 : Nat) : Int) < (ss.length : Int)) = true := by simp; omega
      obtain ⟨C, R, hC, hR, hC1, hR1, hs0, he⟩ := link_facts hr k hlt
      have gC := goodB_iff.1 (hr.good k (by omega))
      have gR := goodB_iff.1 (hr.good (k + 1) (by omega))
      rw [hC] at gC
      rw [hR] at gR
      have hmono := st_mono (k := k + 1) (d := ss.length - 1 - (k + 1)) hr.good (.inl (by omega))
      rw [show k + 1 + (ss.length - 1 - (k + 1)) = ss.length - 1 by omega] at hmono
      have hpl := placesL_length hr k (by omega)
      have hxl : (xs.length : Int) + ((R * C : Nat) : Int) + (R : Int) ≤ 1048576 := by rw [HXS.out, hpl]; omega
      have HPS : Hid (placesL ss (k + 1) = placesL ss k ++ (linkW k C R ++ linkB k R)) := Lib.hid (by rw [placesL, hC, hR, Int.toNat_natCast, Int.toNat_natCast])
      have HD0 := HCS.out k (by omega)
      have HD1 := HCS.out (k + 1) hlt
      rw [hC] at HD0
      rw [hR] at HD1
      have HDA := Lib.hid HD0
      have HDB := Lib.hid HD1
      clear HD0 HD1 hC hR he hmono hpl
      have i0 : (0 : Int) ≤ (k : Int) := by omega
      have i1 : (k : Int) < (ss.length : Int) := by omega
      have i2 : (0 : Int) ≤ ((k + 1 : Nat) : Int) := by omega
      have i3 : ((k + 1 : Nat) : Int) < (ss.length : Int) := by omega
      have i4 : k < ss.length := hk
      generalize hk1 : k + 1 = k1 at *
      have wk3 : IntKind.i64.wrap (k1 : Int) = (k1 : Int) := IntWalk.i64_in _ (by omega)
      obtain ⟨xs0, hxs0⟩ : ∃ xs0, xs0 = xs := ⟨_, rfl⟩
      have hst := cell_step hB HDB.out
      go_wp2_with fail
      clear hst
      rw [← HXS.out, ← hxs0] at HPS
      clear HXS
      go_loopw [3, 5, 6] (fun v r _ wr => ∃ (n : Nat) (xs : List (Int × Int × Int)), n ≤ R ∧ r = .int .i64 n ∧ Hid (xs = xs0 ++ (linkW k C R).take (n * C)) ∧ xs.length = xs0.length + n * C ∧ wr.ownsRow w.heap.size 49 3 v xs.length (pcells xs) ∧ Below w.heap.size w wr) (fun _ r _ _ => R - (intOf r).toNat)
      case atStart => exact ⟨0, xs, by omega, rfl, Lib.hid (by rw [Nat.zero_mul, List.take_zero, List.append_nil, hxs0]), by rw [hxs0]; omega, hrow, hB⟩
      case round =>
        clear hrow hB
        rw [← hxs0] at hxl
        clear hxs0
        obtain ⟨n, xs, hn, rfl, HXS, hlx, hrow, hB⟩ := hrel
        have d1 := cell_step hB HDB.out
        by_cases hlt2 : n < R
        · have hdec2 : decide ((n : Int) < (R : Int)) = true := by simp; omega
          have wn : IntKind.i64.wrap ((n : Int) + 1) = ((n + 1 : Nat) : Int) := (IntWalk.i64_in _ (by omega)).trans (by omega)
          have hmul : (n + 1) * C ≤ R * C := Nat.mul_le_mul_right C hlt2
          rw [Nat.add_mul, Nat.one_mul] at hmul
          have HM : Hid ((n + 1) * C = n * C + C) := Lib.hid (by rw [Nat.add_mul, Nat.one_mul])
          obtain ⟨nC, hnC⟩ : ∃ nC, nC = n * C := ⟨_, rfl⟩
          obtain ⟨RC, hRC⟩ : ∃ RC, RC = R * C := ⟨_, rfl⟩
          have HNC := Lib.hid hnC
          rw [← hnC] at HM hmul hlx HXS
          rw [← hRC] at hmul hxl
          clear hnC hRC
          go_wp2_with fail
          clear d1
          go_loopw [3, 6] (fun v c wr => ∃ (m : Nat) (xs : List (Int × Int × Int)), m ≤ C ∧ c = .int .i64 m ∧ Hid (xs = xs0 ++ (linkW k C R).take (nC + m)) ∧ xs.length = xs0.length + nC + m ∧ wr.ownsRow w.heap.size 49 3 v xs.length (pcells xs) ∧ Below w.heap.size w wr) (fun _ c _ => C - (intOf c).toNat)
          case atStart => exact ⟨0, xs, by omega, rfl, by rw [Nat.add_zero]; exact HXS, by omega, hrow, hB⟩
          case round =>
            clear hrow hB HXS hlx xs
            obtain ⟨m, xs, hm, rfl, HXS, hlx, hrow, hB⟩ := hrel
            have d0 := cell_step hB HDA.out
            by_cases hlt3 : m < C
            · have hdec3 : decide ((m : Int) < (C : Int)) = true := by simp; omega
              have wm : IntKind.i64.wrap ((m : Int) + 1) = ((m + 1 : Nat) : Int) := (IntWalk.i64_in _ (by omega)).trans (by omega)
              have HE : Hid (xs0 ++ (linkW k C R).take (nC + (m + 1)) = xs ++ [((k : Int), (n : Int), (m : Int))]) := Lib.hid (by rw [HXS.out, HNC.out, linkW_at k C R n m hlt2 hlt3, List.append_assoc])
              have c4 := (Below.refl wr.heap.size wr).alloc (Nat.le_refl _) (.cells #[.int .i64 k, .int .i64 n, .int .i64 m] 49)
              have HROW4 := Lib.hid (own_below hrow c4)
              have B4 := Lib.hid (hB.trans (c4.mono hB.size))
              have HN := Lib.hid (cell_new wr #[.int .i64 k, .int .i64 n, .int .i64 m] 49)
              clear hrow hB c4
              go_wp2_with (at_builtin; refine append_list (base := w.heap.size) (n := xs.length) (m := 1) (u := .slice (some ⟨wr.heap.size, 0, none⟩) 1 1) (ys := [.int .i64 k, .int .i64 n, .int .i64 m]) elemPl rfl _ _ rfl rfl rfl HROW4.out rfl (.inr ⟨_, _, rfl, fun j y hy => by rw [Go.WideShapes.add_plain, Nat.zero_add, HN.out]; simpa using hy⟩) (by simp [Value.oneCell']) (by unfold maxLen; omega) (by omega) B4.out.size ?_; intro v' w5 h5 g5; have O5 := Lib.hid h5; have G5 := Lib.hid g5; clear h5 g5)
              have B5 := Lib.hid (below_appended B4.out HROW4.out G5.out (Nat.le_refl _) B4.out.size)
              have O6 := Lib.hid (show w5.ownsRow w.heap.size 49 3 v' (xs ++ [((k : Int), (n : Int), (m : Int))]).length (pcells (xs ++ [((k : Int), (n : Int), (m : Int))])) by rw [pcells_append, List.length_append]; exact O5.out)
              clear O5 G5 B4 HROW4 HN
              refine ⟨⟨m + 1, _, by omega, rfl, Lib.hid HE.out.symm, by simp; omega, O6.out, B5.out⟩, ?_⟩
              simp [intOf]; omega
            · obtain rfl : m = C := by omega
              have hdec3 : decide ((m : Int) < (m : Int)) = false := by simp
              have HROW := Lib.hid hrow
              have HB := Lib.hid hB
              clear hrow hB
              go_wp2_with fail
              refine ⟨⟨n + 1, xs, by omega, rfl, Lib.hid (by rw [HM.out]; exact HXS.out), by rw [HM.out]; omega, HROW.out, HB.out⟩, ?_⟩
              simp [intOf]; omega
        · obtain rfl : n = R := by omega
          have hdec2 : decide ((n : Int) < (n : Int)) = false := by simp
          have HXW : Hid (xs = xs0 ++ linkW k C n) := Lib.hid (by rw [HXS.out, List.take_of_length_le (by rw [linkW_length]; exact Nat.le_refl _)])
          obtain ⟨xs1, hxs1⟩ : ∃ xs1, xs1 = xs := ⟨_, rfl⟩
          have hl1 : (xs1.length : Int) + (n : Int) ≤ 1048576 := by rw [hxs1, hlx]; omega
          rw [← hxs1] at HXW
          clear HXS hlx hxl
          go_wp2_with fail
          clear d1
          go_loopw [3, 7] (fun v r wr => ∃ (m : Nat) (xs : List (Int × Int × Int)), m ≤ n ∧ r = .int .i64 m ∧ Hid (xs = xs1 ++ (linkB k n).take m) ∧ xs.length = xs1.length + m ∧ wr.ownsRow w.heap.size 49 3 v xs.length (pcells xs) ∧ Below w.heap.size w wr) (fun _ r _ => n - (intOf r).toNat)
          case atStart => exact ⟨0, xs, by omega, rfl, Lib.hid (by rw [List.take_zero, List.append_nil, hxs1]), by rw [hxs1]; omega, hrow, hB⟩
          case round =>
            clear hrow hB hxs1 xs
            obtain ⟨m, xs, hm, rfl, HXS, hlx, hrow, hB⟩ := hrel
            have d1 := cell_step hB HDB.out
            by_cases hlt3 : m < n
            · have hdec3 : decide ((m : Int) < (n : Int)) = true := by simp; omega
              have wm : IntKind.i64.wrap ((m : Int) + 1) = ((m + 1 : Nat) : Int) := (IntWalk.i64_in _ (by omega)).trans (by omega)
              have HE : Hid (xs1 ++ (linkB k n).take (m + 1) = xs ++ [((k : Int), (m : Int), -1)]) := Lib.hid (by rw [HXS.out, linkB_at k n m hlt3, List.append_assoc])
              have c4 := (Below.refl wr.heap.size wr).alloc (Nat.le_refl _) (.cells #[.int .i64 k, .int .i64 m, .int .i64 (-1)] 49)
              have HROW4 := Lib.hid (own_below hrow c4)
              have B4 := Lib.hid (hB.trans (c4.mono hB.size))
              have HN := Lib.hid (cell_new wr #[.int .i64 k, .int .i64 m, .int .i64 (-1)] 49)
              clear hrow hB c4
              go_wp2_with (at_builtin; refine append_list (base := w.heap.size) (n := xs.length) (m := 1) (u := .slice (some ⟨wr.heap.size, 0, none⟩) 1 1) (ys := [.int .i64 k, .int .i64 m, .int .i64 (-1)]) elemPl rfl _ _ rfl rfl rfl HROW4.out rfl (.inr ⟨_, _, rfl, fun j y hy => by rw [Go.WideShapes.add_plain, Nat.zero_add, HN.out]; simpa using hy⟩) (by simp [Value.oneCell']) (by unfold maxLen; omega) (by omega) B4.out.size ?_; intro v' w5 h5 g5; have O5 := Lib.hid h5; have G5 := Lib.hid g5; clear h5 g5)
              have B5 := Lib.hid (below_appended B4.out HROW4.out G5.out (Nat.le_refl _) B4.out.size)
              have O6 := Lib.hid (show w5.ownsRow w.heap.size 49 3 v' (xs ++ [((k : Int), (m : Int), (-1 : Int))]).length (pcells (xs ++ [((k : Int), (m : Int), (-1 : Int))])) by rw [pcells_append, List.length_append]; exact O5.out)
              clear O5 G5 B4 HROW4 HN
              refine ⟨⟨m + 1, _, by omega, rfl, Lib.hid HE.out.symm, by simp; omega, O6.out, B5.out⟩, ?_⟩
              simp [intOf]; omega
            · obtain rfl : m = n := by omega
              have hdec3 : decide ((m : Int) < (m : Int)) = false := by simp
              have HROW := Lib.hid hrow
              have HB := Lib.hid hB
              have HEND : Hid (xs = placesL ss k1) := Lib.hid (by rw [HXS.out, HPS.out, HXW.out, List.take_of_length_le (by rw [linkB_length]; exact Nat.le_refl _), List.append_assoc])
              clear hrow hB
              go_wp2_with fail
              refine ⟨⟨k1, xs, by omega, rfl, HEND, HROW.out, HB.out⟩, ?_⟩
              simp [intOf]; omega
    · obtain hke : k = ss.length - 1 := by omega
      have hdec : decide (((k + 1 : Nat) : Int) < (ss.length : Int)) = false := by simp; omega
      have HROW := Lib.hid hrow
      have HB := Lib.hid hB
      clear hrow hB
      go_wp2_with fail
      go_ret
      exact ⟨_, rfl, by rw [← hke, ← HXS.out]; exact HROW.out, HB.out⟩
end Go.Proofs.YtdnaildhcnekfaaDoor
