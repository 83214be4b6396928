/- Tags that are right. -/
import Derived.Test.YtffgcloacdpfaaaDoorLaw
import Derived.Test.YtffgcloacdpfaaaDoorAgg
import Derived.Test.YtffgcloacdpfaaaDoorGen
import Derived.Deep.RegionHeld3
import Derived.LoopN
import Derived.OwnWalk
namespace Go.Proofs.YtffgcloacdpfaaaDoor
open Go.RowKit
set_option linter.unusedVariables false
def tagXs (a b c d e_ : Int) : List Int := [a, b, c, d, e_]
def tagMs : List Int := [1048575, 1048575, 1, 62, 1048575]
def rightB (a b c d e_ : Int) : Bool := decide (∀ j, j < 5 → 0 ≤ (tagXs a b c d e_)[j]?.getD 0 ∧ (tagXs a b c d e_)[j]?.getD 0 ≤ tagMs[j]?.getD 0)
theorem cells_five (w : World) (x y z u v : Value) (e : TypeId) : ∀ j, j < 5 → (w.alloc (.cells #[x, y, z, u, v] e)).cell? ⟨w.heap.size, j, none⟩ = [x, y, z, u, v][j]? := fun j hj => by
  rw [cell_new]; simp
theorem parts_any (a b c d e_ : Int) (w : World) :
    Calls Tryd.prog 25 #[.agg #[.int .i64 a, .int .i64 b, .int .i64 c, .int .i64 d, .int .i64 e_]] w fun e w' => e = .returned (.agg #[.int .i64 a, .int .i64 b, .int .i64 c, .int .i64 d, .int .i64 e_]) ∧ Below w.heap.size w w' := by
  have HB := Lib.hid (((Below.refl w.heap.size w).alloc (Nat.le_refl _) (.cells #[.int .i64 a, .int .i64 b, .int .i64 c, .int .i64 d, .int .i64 e_] 23)).alloc (by simp) (.cells #[.int .i64 a, .int .i64 b, .int .i64 c, .int .i64 d, .int .i64 e_] 44))
  go_enter Tryd.func25, Tryd.ntmps25
  go_wp2
  (try simp only [Exit.inBlock, Exit.then])
  refine bodyPost_ret (v := .agg #[.int .i64 a, .int .i64 b, .int .i64 c, .int .i64 d, .int .i64 e_]) (by simp [results, Tryd.results25, go_sem]) rfl ?_
  exact ⟨rfl, HB.out⟩
theorem greatest_any (w : World) :
    Calls Tryd.prog 26 #[] w fun e w' => e = .returned (.agg #[.int .i64 1048575, .int .i64 1048575, .int .i64 1, .int .i64 62, .int .i64 1048575]) ∧ Below w.heap.size w w' := by
  have HB := Lib.hid ((Below.refl w.heap.size w).alloc (Nat.le_refl _) (.cells #[.int .i64 1048575, .int .i64 1048575, .int .i64 1, .int .i64 62, .int .i64 1048575] 44))
  go_enter Tryd.func26, Tryd.ntmps26
  go_wp2
  (try simp only [Exit.inBlock, Exit.then])
  refine bodyPost_ret (v := .agg #[.int .i64 1048575, .int .i64 1048575, .int .i64 1, .int .i64 62, .int .i64 1048575]) (by simp [results, Tryd.results26, go_sem]) rfl ?_
  exact ⟨rfl, HB.out⟩
set_option maxHeartbeats 2000000 in
theorem right_any (a b c d e_ : Int) (w : World) :
    Calls Tryd.prog 10 #[.agg #[.int .i64 a, .int .i64 b, .int .i64 c, .int .i64 d, .int .i64 e_]] w fun e w' => e = .returned (.bool (rightB a b c d e_)) ∧ Below w.heap.size w w' := by
  have AL := (Below.refl w.heap.size w).alloc (Nat.le_refl _) (.cells #[.int .i64 a, .int .i64 b, .int .i64 c, .int .i64 d, .int .i64 e_] 23)
  go_enter Tryd.func10, Tryd.ntmps10
  go_wp2_with fail
  refine (parts_any a b c d e_ _).mono ?_
  rintro e w1 ⟨rfl, b1⟩
  have B1 := below_step AL b1
  go_wp2_with fail
  refine (greatest_any _).mono ?_
  rintro e w2 ⟨rfl, b2⟩
  have B2 := below_step B1 b2
  have c3 := cells_five w2 (.int .i64 a) (.int .i64 b) (.int .i64 c) (.int .i64 d) (.int .i64 e_) 44
  have al3 := (Below.refl w2.heap.size w2).alloc (Nat.le_refl _) (.cells #[.int .i64 a, .int .i64 b, .int .i64 c, .int .i64 d, .int .i64 e_] 44)
  have c4 := cells_five (w2.alloc (.cells #[.int .i64 a, .int .i64 b, .int .i64 c, .int .i64 d, .int .i64 e_] 44)) (.int .i64 1048575) (.int .i64 1048575) (.int .i64 1) (.int .i64 62) (.int .i64 1048575) 44
  have al4 := (Below.refl (w2.alloc (.cells #[.int .i64 a, .int .i64 b, .int .i64 c, .int .i64 d, .int .i64 e_] 44)).heap.size (w2.alloc (.cells #[.int .i64 a, .int .i64 b, .int .i64 c, .int .i64 d, .int .i64 e_] 44))).alloc (Nat.le_refl _) (.cells #[.int .i64 1048575, .int .i64 1048575, .int .i64 1, .int .i64 62, .int .i64 1048575] 44)
  have hz : (w2.alloc (.cells #[.int .i64 a, .int .i64 b, .int .i64 c, .int .i64 d, .int .i64 e_] 44)).heap.size = w2.heap.size + 1 := by simp
  rw [hz] at c4
  have C3 := Lib.hid (fun j (hj : j < 5) => (show ((w2.alloc (.cells #[.int .i64 a, .int .i64 b, .int .i64 c, .int .i64 d, .int .i64 e_] 44)).alloc (.cells #[.int .i64 1048575, .int .i64 1048575, .int .i64 1, .int .i64 62, .int .i64 1048575] 44)).cell? ⟨w2.heap.size, j, none⟩ = some (.int .i64 ((tagXs a b c d e_)[j]?.getD 0)) from by
    have h := c3 j hj
    have h2 : [Value.int .i64 a, .int .i64 b, .int .i64 c, .int .i64 d, .int .i64 e_][j]? = some (.int .i64 ((tagXs a b c d e_)[j]?.getD 0)) := by
      unfold tagXs
      match j, hj with
      | 0, _ => rfl
      | 1, _ => rfl
      | 2, _ => rfl
      | 3, _ => rfl
      | 4, _ => rfl
    rw [h2] at h
    exact cell_step al4 h))
  have C4 := Lib.hid (fun j (hj : j < 5) => (show ((w2.alloc (.cells #[.int .i64 a, .int .i64 b, .int .i64 c, .int .i64 d, .int .i64 e_] 44)).alloc (.cells #[.int .i64 1048575, .int .i64 1048575, .int .i64 1, .int .i64 62, .int .i64 1048575] 44)).cell? ⟨w2.heap.size + 1, j, none⟩ = some (.int .i64 (tagMs[j]?.getD 0)) from by
    have h := c4 j hj
    have h2 : [Value.int .i64 1048575, .int .i64 1048575, .int .i64 1, .int .i64 62, .int .i64 1048575][j]? = some (.int .i64 (tagMs[j]?.getD 0)) := by
      unfold tagMs
      match j, hj with
      | 0, _ => rfl
      | 1, _ => rfl
      | 2, _ => rfl
      | 3, _ => rfl
      | 4, _ => rfl
    rw [h2] at h
    exact h))
  have B4 := below_step (below_step B2 al3) al4
  clear c3 c4 al3 al4 AL B1 B2 b1 b2
  go_wp2_with fail
  generalize (w2.alloc (.cells #[.int .i64 a, .int .i64 b, .int .i64 c, .int .i64 d, .int .i64 e_] 44)).alloc (.cells #[.int .i64 1048575, .int .i64 1048575, .int .i64 1, .int .i64 62, .int .i64 1048575] 44) = W4 at *
  go_loopw [5, 9] (fun _ i wr => ∃ k : Nat, k ≤ 5 ∧ i = .int .i64 k ∧ (∀ j, j < k → 0 ≤ (tagXs a b c d e_)[j]?.getD 0 ∧ (tagXs a b c d e_)[j]?.getD 0 ≤ tagMs[j]?.getD 0) ∧ Below W4.heap.size W4 wr) (fun _ i _ => 5 - (intOf i).toNat)
  case atStart => exact ⟨0, by omega, rfl, fun j hj => absurd hj (Nat.not_lt_zero j), Below.refl _ _⟩
  case round =>
    obtain ⟨k, hk, rfl, hall, bw⟩ := hrel
    have HA := Lib.hid hall
    have HBW := Lib.hid (B4.trans (bw.mono B4.size))
    clear hall
    by_cases hlt : k < 5
    · have c1 := cell_step bw (C3.out k hlt)
      have c2 := cell_step bw (C4.out k hlt)
      have HX := Lib.hid (show (tagXs a b c d e_)[k]?.getD 0 = (tagXs a b c d e_)[k]?.getD 0 ∧ tagMs[k]?.getD 0 = tagMs[k]?.getD 0 from ⟨rfl, rfl⟩)
      obtain ⟨x, hx⟩ : ∃ x, x = (tagXs a b c d e_)[k]?.getD 0 := ⟨_, rfl⟩
      obtain ⟨m, hm⟩ : ∃ m, m = tagMs[k]?.getD 0 := ⟨_, rfl⟩
      rw [← hx] at c1
      rw [← hm] at c2
      have HXM := Lib.hid (And.intro hx hm)
      have bd := (Below.refl wr.heap.size wr).drew
      have HBD := Lib.hid (bw.drew)
      have NO := Lib.hid (fun (h : ¬ (0 ≤ x ∧ x ≤ m)) => (show rightB a b c d e_ = false from by
        unfold rightB
        rw [decide_eq_false_iff_not]
        intro h2
        have h3 := h2 k hlt
        rw [← HXM.out.1, ← HXM.out.2] at h3
        exact h h3))
      clear HX hx hm bw
      by_cases h1 : x < 0
      · have g1 : decide (x < 0) = true := by simpa using h1
        have hno := NO.out (by omega)
        go_wp2_with fail
        refine wp_region_held_drew (S := fun w' => w'.cell? ⟨w2.heap.size, k, none⟩ = some (.int .i64 x) ∧ w'.cell? ⟨w2.heap.size + 1, k, none⟩ = some (.int .i64 m)) (by kernel_rfl) ?_ (fun hHeld => ?_)
        · exact ⟨cell_step bd c1, cell_step bd c2⟩
        refine wpAnyH_take (i := 0) (v := ?v1) rfl (by kernel_rfl) (by kernel_rfl) (by kernel_rfl) (fun _ _ _ h => h) (Or.inl ⟨by rfl, ?hy1⟩) (by assumption) ?rest1
        case hy1 => (intro w hSw; (try dsimp only at hSw); go_simp; (first | done | with_reducible rfl))
        simp only [Act.put, List.setIfInBounds_toArray, List.set_cons_zero, List.set_cons_succ, List.getElem_toArray, List.getElem_cons_zero]
        refine wpAnyH_take (i := 1) (v := ?v2) rfl (by kernel_rfl) (by kernel_rfl) (by kernel_rfl) (fun _ _ _ h => h) (Or.inl ⟨by rfl, ?hy2⟩) (by assumption) ?rest2
        case hy2 => (intro w hSw; (try dsimp only at hSw); go_simp; (first | done | with_reducible rfl))
        simp only [Act.put, List.setIfInBounds_toArray, List.set_cons_zero, List.set_cons_succ, List.getElem_toArray, List.getElem_cons_zero, List.getElem_cons_succ]
        refine wpAnyH_take (i := 2) (v := ?v3) rfl (by kernel_rfl) (by kernel_rfl) (by kernel_rfl) (fun _ _ _ h => h) (Or.inl ⟨by rfl, ?hy3⟩) (by assumption) ?rest3
        case hy3 => (intro w hSw; (try dsimp only at hSw); go_simp; (first | done | with_reducible rfl))
        simp only [Act.put, List.setIfInBounds_toArray, List.set_cons_zero, List.set_cons_succ, List.getElem_toArray, List.getElem_cons_zero, List.getElem_cons_succ]
        refine wpAnyH_take (i := 3) (v := ?v4) rfl (by kernel_rfl) (by kernel_rfl) (by kernel_rfl) (fun _ _ _ h => h) (Or.inl ⟨by rfl, ?hy4⟩) (by assumption) ?rest4
        case hy4 => (intro w hSw; (try dsimp only at hSw); go_simp; (first | done | with_reducible rfl))
        simp only [Act.put, List.setIfInBounds_toArray, List.set_cons_zero, List.set_cons_succ, List.getElem_toArray, List.getElem_cons_zero, List.getElem_cons_succ]
        refine wpAnyH_take (i := 4) (v := ?v5) rfl (by kernel_rfl) (by kernel_rfl) (by kernel_rfl) (fun _ _ _ h => h) (Or.inl ⟨by rfl, ?hy5⟩) (by assumption) ?rest5
        case hy5 => (intro w hSw; (try dsimp only at hSw); go_simp; (first | done | with_reducible rfl))
        simp only [Act.put, List.setIfInBounds_toArray, List.set_cons_zero, List.set_cons_succ, List.getElem_toArray, List.getElem_cons_zero, List.getElem_cons_succ]
        refine wpAnyH_take (i := 5) (v := undef) rfl (by kernel_rfl) (by kernel_rfl) (by kernel_rfl) (fun _ _ _ h => h) (Or.inr ⟨by rfl, rfl⟩) (by assumption) ?rest6
        simp only [Act.put, List.setIfInBounds_toArray, List.set_cons_zero, List.set_cons_succ, List.getElem_toArray, List.getElem_cons_zero, List.getElem_cons_succ]
        refine wpAnyH_take (i := 6) (v := undef) rfl (by kernel_rfl) (by kernel_rfl) (by kernel_rfl) (fun _ _ _ h => h) (Or.inr ⟨by rfl, rfl⟩) (by assumption) ?rest7
        simp only [Act.put, List.setIfInBounds_toArray, List.set_cons_zero, List.set_cons_succ, List.getElem_toArray, List.getElem_cons_zero, List.getElem_cons_succ]
        refine wpAnyH_take (i := 7) (v := undef) rfl (by kernel_rfl) (by kernel_rfl) (by kernel_rfl) (fun _ _ _ h => h) (Or.inr ⟨by rfl, rfl⟩) (by assumption) ?rest8
        simp only [Act.put, List.setIfInBounds_toArray, List.set_cons_zero, List.set_cons_succ, List.getElem_toArray, List.getElem_cons_zero, List.getElem_cons_succ]
        refine wpAnyH_take (i := 8) (v := undef) rfl (by kernel_rfl) (by kernel_rfl) (by kernel_rfl) (fun _ _ _ h => h) (Or.inr ⟨by rfl, rfl⟩) (by assumption) ?rest9
        simp only [Act.put, List.setIfInBounds_toArray, List.set_cons_zero, List.set_cons_succ, List.getElem_toArray, List.getElem_cons_zero, List.getElem_cons_succ]
        refine wpAnyH_take (i := 9) (v := undef) rfl (by kernel_rfl) (by kernel_rfl) (by kernel_rfl) (fun _ _ _ h => h) (Or.inr ⟨by rfl, rfl⟩) (by assumption) ?rest10
        simp only [Act.put, List.setIfInBounds_toArray, List.set_cons_zero, List.set_cons_succ, List.getElem_toArray, List.getElem_cons_zero, List.getElem_cons_succ]
        refine wpAnyH_take (i := 10) (v := undef) rfl (by kernel_rfl) (by kernel_rfl) (by kernel_rfl) (fun _ _ _ h => h) (Or.inr ⟨by rfl, rfl⟩) (by assumption) ?rest11
        simp only [Act.put, List.setIfInBounds_toArray, List.set_cons_zero, List.set_cons_succ, List.getElem_toArray, List.getElem_cons_zero, List.getElem_cons_succ]
        refine wpAnyH_take (i := 11) (v := undef) rfl (by kernel_rfl) (by kernel_rfl) (by kernel_rfl) (fun _ _ _ h => h) (Or.inr ⟨by rfl, rfl⟩) (by assumption) ?rest12
        simp only [Act.put, List.setIfInBounds_toArray, List.set_cons_zero, List.set_cons_succ, List.getElem_toArray, List.getElem_cons_zero, List.getElem_cons_succ]
        refine wpAnyH_take (i := 12) (v := ?v13) rfl (by kernel_rfl) (by kernel_rfl) (by kernel_rfl) (fun _ _ _ h => h) (Or.inl ⟨by rfl, ?hy13⟩) (by assumption) ?rest13
        case hy13 => (intro w hSw; (try dsimp only at hSw); go_simp; (first | done | with_reducible rfl))
        simp only [Act.put, List.setIfInBounds_toArray, List.set_cons_zero, List.set_cons_succ, List.getElem_toArray, List.getElem_cons_zero, List.getElem_cons_succ]
        refine wpAnyH_done (by kernel_rfl) ?_ _
        go_wp2_with fail
        go_ret
        exact ⟨by rw [hno]; rfl, HBW.out.drew⟩
      · have g1 : decide (x < 0) = false := by simpa using h1
        by_cases h2 : m < x
        · have g2 : decide (m < x) = true := by simpa using h2
          have hno := NO.out (by omega)
          go_wp2_with fail
          refine wp_region_held_drew (S := fun w' => w'.cell? ⟨w2.heap.size, k, none⟩ = some (.int .i64 x) ∧ w'.cell? ⟨w2.heap.size + 1, k, none⟩ = some (.int .i64 m)) (by kernel_rfl) ?_ (fun hHeld => ?_)
          · exact ⟨cell_step bd c1, cell_step bd c2⟩
          refine wpAnyH_take (i := 0) (v := ?v14) rfl (by kernel_rfl) (by kernel_rfl) (by kernel_rfl) (fun _ _ _ h => h) (Or.inl ⟨by rfl, ?hy14⟩) (by assumption) ?rest14
          case hy14 => (intro w hSw; (try dsimp only at hSw); go_simp; (first | done | with_reducible rfl))
          simp only [Act.put, List.setIfInBounds_toArray, List.set_cons_zero, List.set_cons_succ, List.getElem_toArray, List.getElem_cons_zero]
          refine wpAnyH_take (i := 1) (v := ?v15) rfl (by kernel_rfl) (by kernel_rfl) (by kernel_rfl) (fun _ _ _ h => h) (Or.inl ⟨by rfl, ?hy15⟩) (by assumption) ?rest15
          case hy15 => (intro w hSw; (try dsimp only at hSw); go_simp; (first | done | with_reducible rfl))
          simp only [Act.put, List.setIfInBounds_toArray, List.set_cons_zero, List.set_cons_succ, List.getElem_toArray, List.getElem_cons_zero, List.getElem_cons_succ]
          refine wpAnyH_take (i := 2) (v := ?v16) rfl (by kernel_rfl) (by kernel_rfl) (by kernel_rfl) (fun _ _ _ h => h) (Or.inl ⟨by rfl, ?hy16⟩) (by assumption) ?rest16
          case hy16 => (intro w hSw; (try dsimp only at hSw); go_simp; (first | done | with_reducible rfl))
          simp only [Act.put, List.setIfInBounds_toArray, List.set_cons_zero, List.set_cons_succ, List.getElem_toArray, List.getElem_cons_zero, List.getElem_cons_succ]
          refine wpAnyH_take (i := 3) (v := ?v17) rfl (by kernel_rfl) (by kernel_rfl) (by kernel_rfl) (fun _ _ _ h => h) (Or.inl ⟨by rfl, ?hy17⟩) (by assumption) ?rest17
          case hy17 => (intro w hSw; (try dsimp only at hSw); go_simp; (first | done | with_reducible rfl))
          simp only [Act.put, List.setIfInBounds_toArray, List.set_cons_zero, List.set_cons_succ, List.getElem_toArray, List.getElem_cons_zero, List.getElem_cons_succ]
          refine wpAnyH_take (i := 4) (v := ?v18) rfl (by kernel_rfl) (by kernel_rfl) (by kernel_rfl) (fun _ _ _ h => h) (Or.inl ⟨by rfl, ?hy18⟩) (by assumption) ?rest18
          case hy18 => (intro w hSw; (try dsimp only at hSw); go_simp; (first | done | with_reducible rfl))
          simp only [Act.put, List.setIfInBounds_toArray, List.set_cons_zero, List.set_cons_succ, List.getElem_toArray, List.getElem_cons_zero, List.getElem_cons_succ]
          refine wpAnyH_take (i := 5) (v := ?v19) rfl (by kernel_rfl) (by kernel_rfl) (by kernel_rfl) (fun _ _ _ h => h) (Or.inl ⟨by rfl, ?hy19⟩) (by assumption) ?rest19
          case hy19 => (intro w hSw; (try dsimp only at hSw); go_simp; (first | done | with_reducible rfl))
          simp only [Act.put, List.setIfInBounds_toArray, List.set_cons_zero, List.set_cons_succ, List.getElem_toArray, List.getElem_cons_zero, List.getElem_cons_succ]
          refine wpAnyH_take (i := 6) (v := ?v20) rfl (by kernel_rfl) (by kernel_rfl) (by kernel_rfl) (fun _ _ _ h => h) (Or.inl ⟨by rfl, ?hy20⟩) (by assumption) ?rest20
          case hy20 => (intro w hSw; (try dsimp only at hSw); go_simp; (first | done | with_reducible rfl))
          simp only [Act.put, List.setIfInBounds_toArray, List.set_cons_zero, List.set_cons_succ, List.getElem_toArray, List.getElem_cons_zero, List.getElem_cons_succ]
          refine wpAnyH_take (i := 7) (v := ?v21) rfl (by kernel_rfl) (by kernel_rfl) (by kernel_rfl) (fun _ _ _ h => h) (Or.inl ⟨by rfl, ?hy21⟩) (by assumption) ?rest21
          case hy21 => (intro w hSw; (try dsimp only at hSw); go_simp; (first | done | with_reducible rfl))
          simp only [Act.put, List.setIfInBounds_toArray, List.set_cons_zero, List.set_cons_succ, List.getElem_toArray, List.getElem_cons_zero, List.getElem_cons_succ]
          refine wpAnyH_take (i := 8) (v := ?v22) rfl (by kernel_rfl) (by kernel_rfl) (by kernel_rfl) (fun _ _ _ h => h) (Or.inl ⟨by rfl, ?hy22⟩) (by assumption) ?rest22
          case hy22 => (intro w hSw; (try dsimp only at hSw); go_simp; (first | done | with_reducible rfl))
          simp only [Act.put, List.setIfInBounds_toArray, List.set_cons_zero, List.set_cons_succ, List.getElem_toArray, List.getElem_cons_zero, List.getElem_cons_succ]
          refine wpAnyH_take (i := 9) (v := ?v23) rfl (by kernel_rfl) (by kernel_rfl) (by kernel_rfl) (fun _ _ _ h => h) (Or.inl ⟨by rfl, ?hy23⟩) (by assumption) ?rest23
          case hy23 => (intro w hSw; (try dsimp only at hSw); go_simp; (first | done | with_reducible rfl))
          simp only [Act.put, List.setIfInBounds_toArray, List.set_cons_zero, List.set_cons_succ, List.getElem_toArray, List.getElem_cons_zero, List.getElem_cons_succ]
          refine wpAnyH_take (i := 10) (v := ?v24) rfl (by kernel_rfl) (by kernel_rfl) (by kernel_rfl) (fun _ _ _ h => h) (Or.inl ⟨by rfl, ?hy24⟩) (by assumption) ?rest24
          case hy24 => (intro w hSw; (try dsimp only at hSw); go_simp; (first | done | with_reducible rfl))
          simp only [Act.put, List.setIfInBounds_toArray, List.set_cons_zero, List.set_cons_succ, List.getElem_toArray, List.getElem_cons_zero, List.getElem_cons_succ]
          refine wpAnyH_take (i := 11) (v := ?v25) rfl (by kernel_rfl) (by kernel_rfl) (by kernel_rfl) (fun _ _ _ h => h) (Or.inl ⟨by rfl, ?hy25⟩) (by assumption) ?rest25
          case hy25 => (intro w hSw; (try dsimp only at hSw); go_simp; (first | done | with_reducible rfl))
          simp only [Act.put, List.setIfInBounds_toArray, List.set_cons_zero, List.set_cons_succ, List.getElem_toArray, List.getElem_cons_zero, List.getElem_cons_succ]
          refine wpAnyH_take (i := 12) (v := ?v26) rfl (by kernel_rfl) (by kernel_rfl) (by kernel_rfl) (fun _ _ _ h => h) (Or.inl ⟨by rfl, ?hy26⟩) (by assumption) ?rest26
          case hy26 => (intro w hSw; (try dsimp only at hSw); go_simp; (first | done | with_reducible rfl))
          simp only [Act.put, List.setIfInBounds_toArray, List.set_cons_zero, List.set_cons_succ, List.getElem_toArray, List.getElem_cons_zero, List.getElem_cons_succ]
          refine wpAnyH_done (by kernel_rfl) ?_ _
          go_wp2_with fail
          go_ret
          exact ⟨by rw [hno]; rfl, HBW.out.drew⟩
        · have g2 : decide (m < x) = false := by simpa using h2
          go_wp2_with fail
          refine wp_region_held_drew (S := fun w' => w'.cell? ⟨w2.heap.size, k, none⟩ = some (.int .i64 x) ∧ w'.cell? ⟨w2.heap.size + 1, k, none⟩ = some (.int .i64 m)) (by kernel_rfl) ?_ (fun hHeld => ?_)
          · exact ⟨cell_step bd c1, cell_step bd c2⟩
          refine wpAnyH_take (i := 0) (v := ?v27) rfl (by kernel_rfl) (by kernel_rfl) (by kernel_rfl) (fun _ _ _ h => h) (Or.inl ⟨by rfl, ?hy27⟩) (by assumption) ?rest27
          case hy27 => (intro w hSw; (try dsimp only at hSw); go_simp; (first | done | with_reducible rfl))
          simp only [Act.put, List.setIfInBounds_toArray, List.set_cons_zero, List.set_cons_succ, List.getElem_toArray, List.getElem_cons_zero]
          refine wpAnyH_take (i := 1) (v := ?v28) rfl (by kernel_rfl) (by kernel_rfl) (by kernel_rfl) (fun _ _ _ h => h) (Or.inl ⟨by rfl, ?hy28⟩) (by assumption) ?rest28
          case hy28 => (intro w hSw; (try dsimp only at hSw); go_simp; (first | done | with_reducible rfl))
          simp only [Act.put, List.setIfInBounds_toArray, List.set_cons_zero, List.set_cons_succ, List.getElem_toArray, List.getElem_cons_zero, List.getElem_cons_succ]
          refine wpAnyH_take (i := 2) (v := ?v29) rfl (by kernel_rfl) (by kernel_rfl) (by kernel_rfl) (fun _ _ _ h => h) (Or.inl ⟨by rfl, ?hy29⟩) (by assumption) ?rest29
          case hy29 => (intro w hSw; (try dsimp only at hSw); go_simp; (first | done | with_reducible rfl))
          simp only [Act.put, List.setIfInBounds_toArray, List.set_cons_zero, List.set_cons_succ, List.getElem_toArray, List.getElem_cons_zero, List.getElem_cons_succ]
          refine wpAnyH_take (i := 3) (v := ?v30) rfl (by kernel_rfl) (by kernel_rfl) (by kernel_rfl) (fun _ _ _ h => h) (Or.inl ⟨by rfl, ?hy30⟩) (by assumption) ?rest30
          case hy30 => (intro w hSw; (try dsimp only at hSw); go_simp; (first | done | with_reducible rfl))
          simp only [Act.put, List.setIfInBounds_toArray, List.set_cons_zero, List.set_cons_succ, List.getElem_toArray, List.getElem_cons_zero, List.getElem_cons_succ]
          refine wpAnyH_take (i := 4) (v := ?v31) rfl (by kernel_rfl) (by kernel_rfl) (by kernel_rfl) (fun _ _ _ h => h) (Or.inl ⟨by rfl, ?hy31⟩) (by assumption) ?rest31
          case hy31 => (intro w hSw; (try dsimp only at hSw); go_simp; (first | done | with_reducible rfl))
          simp only [Act.put, List.setIfInBounds_toArray, List.set_cons_zero, List.set_cons_succ, List.getElem_toArray, List.getElem_cons_zero, List.getElem_cons_succ]
          refine wpAnyH_take (i := 5) (v := ?v32) rfl (by kernel_rfl) (by kernel_rfl) (by kernel_rfl) (fun _ _ _ h => h) (Or.inl ⟨by rfl, ?hy32⟩) (by assumption) ?rest32
          case hy32 => (intro w hSw; (try dsimp only at hSw); go_simp; (first | done | with_reducible rfl))
          simp only [Act.put, List.setIfInBounds_toArray, List.set_cons_zero, List.set_cons_succ, List.getElem_toArray, List.getElem_cons_zero, List.getElem_cons_succ]
          refine wpAnyH_take (i := 6) (v := ?v33) rfl (by kernel_rfl) (by kernel_rfl) (by kernel_rfl) (fun _ _ _ h => h) (Or.inl ⟨by rfl, ?hy33⟩) (by assumption) ?rest33
          case hy33 => (intro w hSw; (try dsimp only at hSw); go_simp; (first | done | with_reducible rfl))
          simp only [Act.put, List.setIfInBounds_toArray, List.set_cons_zero, List.set_cons_succ, List.getElem_toArray, List.getElem_cons_zero, List.getElem_cons_succ]
          refine wpAnyH_take (i := 7) (v := ?v34) rfl (by kernel_rfl) (by kernel_rfl) (by kernel_rfl) (fun _ _ _ h => h) (Or.inl ⟨by rfl, ?hy34⟩) (by assumption) ?rest34
          case hy34 => (intro w hSw; (try dsimp only at hSw); go_simp; (first | done | with_reducible rfl))
          simp only [Act.put, List.setIfInBounds_toArray, List.set_cons_zero, List.set_cons_succ, List.getElem_toArray, List.getElem_cons_zero, List.getElem_cons_succ]
          refine wpAnyH_take (i := 8) (v := ?v35) rfl (by kernel_rfl) (by kernel_rfl) (by kernel_rfl) (fun _ _ _ h => h) (Or.inl ⟨by rfl, ?hy35⟩) (by assumption) ?rest35
          case hy35 => (intro w hSw; (try dsimp only at hSw); go_simp; (first | done | with_reducible rfl))
          simp only [Act.put, List.setIfInBounds_toArray, List.set_cons_zero, List.set_cons_succ, List.getElem_toArray, List.getElem_cons_zero, List.getElem_cons_succ]
          refine wpAnyH_take (i := 9) (v := ?v36) rfl (by kernel_rfl) (by kernel_rfl) (by kernel_rfl) (fun _ _ _ h => h) (Or.inl ⟨by rfl, ?hy36⟩) (by assumption) ?rest36
          case hy36 => (intro w hSw; (try dsimp only at hSw); go_simp; (first | done | with_reducible rfl))
          simp only [Act.put, List.setIfInBounds_toArray, List.set_cons_zero, List.set_cons_succ, List.getElem_toArray, List.getElem_cons_zero, List.getElem_cons_succ]
          refine wpAnyH_take (i := 10) (v := ?v37) rfl (by kernel_rfl) (by kernel_rfl) (by kernel_rfl) (fun _ _ _ h => h) (Or.inl ⟨by rfl, ?hy37⟩) (by assumption) ?rest37
          case hy37 => (intro w hSw; (try dsimp only at hSw); go_simp; (first | done | with_reducible rfl))
          simp only [Act.put, List.setIfInBounds_toArray, List.set_cons_zero, List.set_cons_succ, List.getElem_toArray, List.getElem_cons_zero, List.getElem_cons_succ]
          refine wpAnyH_take (i := 11) (v := ?v38) rfl (by kernel_rfl) (by kernel_rfl) (by kernel_rfl) (fun _ _ _ h => h) (Or.inl ⟨by rfl, ?hy38⟩) (by assumption) ?rest38
          case hy38 => (intro w hSw; (try dsimp only at hSw); go_simp; (first | done | with_reducible rfl))
          simp only [Act.put, List.setIfInBounds_toArray, List.set_cons_zero, List.set_cons_succ, List.getElem_toArray, List.getElem_cons_zero, List.getElem_cons_succ]
          refine wpAnyH_take (i := 12) (v := ?v39) rfl (by kernel_rfl) (by kernel_rfl) (by kernel_rfl) (fun _ _ _ h => h) (Or.inl ⟨by rfl, ?hy39⟩) (by assumption) ?rest39
          case hy39 => (intro w hSw; (try dsimp only at hSw); go_simp; (first | done | with_reducible rfl))
          simp only [Act.put, List.setIfInBounds_toArray, List.set_cons_zero, List.set_cons_succ, List.getElem_toArray, List.getElem_cons_zero, List.getElem_cons_succ]
          refine wpAnyH_done (by kernel_rfl) ?_ _
          go_wp2_with fail
          refine ⟨⟨k + 1, by omega, by go_num, fun j hj => ?_, HBD.out⟩, ?_⟩
          · by_cases hjk : j < k
            · exact HA.out j hjk
            · have e : j = k := by omega
              rw [e, ← HXM.out.1, ← HXM.out.2]
              omega
          · show 5 - ((k : Int) + 1).toNat < 5 - ((k : Int)).toNat
            omega
    · have hk' : k = 5 := by omega
      subst hk'
      have hyes : rightB a b c d e_ = true := by
        unfold rightB
        rw [decide_eq_true_iff]
        exact HA.out
      clear bw
      go_wp2_with fail
      go_ret
      exact ⟨by rw [hyes]; rfl, HBW.out⟩
def tagYs (a b e_ : Int) : List Int := [a, b, e_]
theorem rightB_parts (a b c d e_ : Int) : rightB a b c d e_ = decide ((∀ j, j < 3 → 0 ≤ (tagYs a b e_)[j]?.getD 0 ∧ (tagYs a b e_)[j]?.getD 0 ≤ 1048575) ∧ (c = 0 ∨ c = 1) ∧ 0 ≤ d ∧ d ≤ 62) := by
  unfold rightB
  rw [decide_eq_decide]
  constructor
  · intro h
    have h0 := h 0 (by omega)
    have h1 := h 1 (by omega)
    have h2 := h 2 (by omega)
    have h3 := h 3 (by omega)
    have h4 := h 4 (by omega)
    simp only [tagXs, tagMs, List.getElem?_cons_zero, List.getElem?_cons_succ, Option.getD_some] at h0 h1 h2 h3 h4
    refine ⟨fun j hj => ?_, by omega, by omega, by omega⟩
    match j, hj with
    | 0, _ => exact h0
    | 1, _ => exact h1
    | 2, _ => exact h4
  · rintro ⟨h, hc, hd, hd2⟩ j hj
    have h0 := h 0 (by omega)
    have h1 := h 1 (by omega)
    have h2 := h 2 (by omega)
    simp only [tagYs, List.getElem?_cons_zero, List.getElem?_cons_succ, Option.getD_some] at h0 h1 h2
    match j, hj with
    | 0, _ => exact h0
    | 1, _ => exact h1
    | 2, _ => simp only [tagXs, tagMs, List.getElem?_cons_zero, List.getElem?_cons_succ, Option.getD_some]; omega
    | 3, _ => simp only [tagXs, tagMs, List.getElem?_cons_zero, List.getElem?_cons_succ, Option.getD_some]; omega
    | 4, _ => exact h2
set_option maxHeartbeats 2000000 in
theorem refRight_any (a b c d e_ : Int) (w : World) :
    Calls Tryd.prog 9 #[.agg #[.int .i64 a, .int .i64 b, .int .i64 c, .int .i64 d, .int .i64 e_]] w fun e w' => e = .returned (.bool (rightB a b c d e_)) ∧ Below w.heap.size w w' := by
  obtain ⟨R, hR⟩ : ∃ R, R = rightB a b c d e_ := ⟨_, rfl⟩
  rw [← hR]
  have HRR := Lib.hid hR
  clear hR
  have AL := (Below.refl w.heap.size w).alloc (Nat.le_refl _) (.cells #[.int .i64 a, .int .i64 b, .int .i64 c, .int .i64 d, .int .i64 e_] 23)
  have c0 := cells_five w (.int .i64 a) (.int .i64 b) (.int .i64 c) (.int .i64 d) (.int .i64 e_) 23
  have al2 := (Below.refl (w.alloc (.cells #[.int .i64 a, .int .i64 b, .int .i64 c, .int .i64 d, .int .i64 e_] 23)).heap.size (w.alloc (.cells #[.int .i64 a, .int .i64 b, .int .i64 c, .int .i64 d, .int .i64 e_] 23))).alloc (Nat.le_refl _) (.cells #[.int .i64 a, .int .i64 b, .int .i64 e_] 3)
  have c3 := cell_step al2 (c0 3 (by omega))
  have c2 := cell_step al2 (c0 2 (by omega))
  have hz : (w.alloc (.cells #[.int .i64 a, .int .i64 b, .int .i64 c, .int .i64 d, .int .i64 e_] 23)).heap.size = w.heap.size + 1 := by simp
  have y0 := cell_new (w.alloc (.cells #[.int .i64 a, .int .i64 b, .int .i64 c, .int .i64 d, .int .i64 e_] 23)) #[.int .i64 a, .int .i64 b, .int .i64 e_] 3
  rw [hz] at y0
  have CY := Lib.hid (fun j (hj : j < 3) => (show ((w.alloc (.cells #[.int .i64 a, .int .i64 b, .int .i64 c, .int .i64 d, .int .i64 e_] 23)).alloc (.cells #[.int .i64 a, .int .i64 b, .int .i64 e_] 3)).cell? ⟨w.heap.size + 1, j, none⟩ = some (.int .i64 ((tagYs a b e_)[j]?.getD 0)) from by
    rw [y0 j]
    unfold tagYs
    match j, hj with
    | 0, _ => rfl
    | 1, _ => rfl
    | 2, _ => rfl))
  have B2 := below_step AL al2
  clear c0 y0 AL al2
  go_enter Tryd.func9, Tryd.ntmps9
  go_wp2_with fail
  generalize (w.alloc (.cells #[.int .i64 a, .int .i64 b, .int .i64 c, .int .i64 d, .int .i64 e_] 23)).alloc (.cells #[.int .i64 a, .int .i64 b, .int .i64 e_] 3) = W4 at *
  go_loopw [4] (fun i wr => ∃ k : Nat, k ≤ 3 ∧ i = .int .i64 k ∧ (∀ j, j < k → 0 ≤ (tagYs a b e_)[j]?.getD 0 ∧ (tagYs a b e_)[j]?.getD 0 ≤ 1048575) ∧ Below W4.heap.size W4 wr) (fun i _ => 3 - (intOf i).toNat)
  case atStart => exact ⟨0, by omega, rfl, fun j hj => absurd hj (Nat.not_lt_zero j), Below.refl _ _⟩
  case round =>
    obtain ⟨k, hk, rfl, hall, bw⟩ := hrel
    have HA := Lib.hid hall
    have HBW := Lib.hid (B2.trans (bw.mono B2.size))
    clear hall
    by_cases hlt : k < 3
    · have c1 := cell_step bw (CY.out k hlt)
      obtain ⟨x, hx⟩ : ∃ x, x = (tagYs a b e_)[k]?.getD 0 := ⟨_, rfl⟩
      rw [← hx] at c1
      have HXM := Lib.hid hx
      have HBD := Lib.hid bw
      have NO := Lib.hid (fun (h : ¬ (0 ≤ x ∧ x ≤ 1048575)) => (show decide ((∀ j, j < 3 → 0 ≤ (tagYs a b e_)[j]?.getD 0 ∧ (tagYs a b e_)[j]?.getD 0 ≤ 1048575) ∧ (c = 0 ∨ c = 1) ∧ 0 ≤ d ∧ d ≤ 62) = false from by
        rw [decide_eq_false_iff_not]
        intro h2
        have h3 := h2.1 k hlt
        rw [← HXM.out] at h3
        exact h h3))
      clear hx bw c2 c3
      by_cases h1 : x < 0
      · have g1 : decide (x < 0) = true := by simpa using h1
        have hno := NO.out (by omega)
        go_wp2_with fail
        go_ret
        exact ⟨by rw [show R = false from by rw [HRR.out, rightB_parts, hno]]; rfl, HBW.out⟩
      · have g1 : decide (x < 0) = false := by simpa using h1
        by_cases h2 : 1048575 < x
        · have g2 : decide (1048575 < x) = true := by simpa using h2
          have hno := NO.out (by omega)
          go_wp2_with fail
          go_ret
          exact ⟨by rw [show R = false from by rw [HRR.out, rightB_parts, hno]]; rfl, HBW.out⟩
        · have g2 : decide (1048575 < x) = false := by simpa using h2
          go_wp2_with fail
          refine ⟨⟨k + 1, by omega, by go_num, fun j hj => ?_, HBD.out⟩, ?_⟩
          · by_cases hjk : j < k
            · exact HA.out j hjk
            · have e : j = k := by omega
              rw [e, ← HXM.out]
              omega
          · show 3 - ((k : Int) + 1).toNat < 3 - ((k : Int)).toNat
            omega
    · have hk' : k = 3 := by omega
      subst hk'
      have q2 := cell_step bw (show W4.cell? ⟨w.heap.size, 2, none⟩ = some (.int .i64 c) from c2)
      have q3 := cell_step bw (show W4.cell? ⟨w.heap.size, 3, none⟩ = some (.int .i64 d) from c3)
      have HR := Lib.hid (show decide ((∀ j, j < 3 → 0 ≤ (tagYs a b e_)[j]?.getD 0 ∧ (tagYs a b e_)[j]?.getD 0 ≤ 1048575) ∧ (c = 0 ∨ c = 1) ∧ 0 ≤ d ∧ d ≤ 62) = decide ((c = 0 ∨ c = 1) ∧ 0 ≤ d ∧ d ≤ 62) from by
        rw [decide_eq_decide]
        exact ⟨fun h => h.2, fun h => ⟨HA.out, h⟩⟩)
      clear bw c2 c3
      have HQ := Lib.hid (show R = decide ((c = 0 ∨ c = 1) ∧ 0 ≤ d ∧ d ≤ 62) from by rw [HRR.out, rightB_parts, HR.out])
      clear HR HRR
      by_cases h1 : c = 0
      · subst h1
        by_cases h2 : 0 ≤ d
        · have g2 : decide (0 ≤ d) = true := by simpa using h2
          go_wp2_with fail
          go_ret
          exact ⟨by rw [HQ.out]; simp [h2], HBW.out⟩
        · have g2 : decide (0 ≤ d) = false := by simpa using h2
          go_wp2_with fail
          go_ret
          exact ⟨by rw [HQ.out]; have := of_decide_eq_false g2; simp; omega, HBW.out⟩
      · have g1 : (c == 0) = false := by simpa using h1
        by_cases h3 : c = 1
        · subst h3
          by_cases h2 : 0 ≤ d
          · have g2 : decide (0 ≤ d) = true := by simpa using h2
            go_wp2_with fail
            go_ret
            exact ⟨by rw [HQ.out]; simp [h2], HBW.out⟩
          · have g2 : decide (0 ≤ d) = false := by simpa using h2
            go_wp2_with fail
            go_ret
            exact ⟨by rw [HQ.out]; have := of_decide_eq_false g2; simp; omega, HBW.out⟩
        · have g3 : (c == 1) = false := by simpa using h3
          go_wp2_with fail
          go_ret
          exact ⟨by rw [HQ.out]; simp [h1, h3], HBW.out⟩
end Go.Proofs.YtffgcloacdpfaaaDoor
