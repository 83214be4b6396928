/- Layer 7: the reference's Outer. -/
import Derived.Test.YtinflmjombcolaaMatX
namespace Go.Proofs.Ytinflmjombcolaa
open Go.RowKit
set_option linter.unusedVariables false
/-- a list of numbers that is filled in from the front -/
def fillK (zs : List Int) (k : Nat) : List Int := zs.take k ++ List.replicate (zs.length - k) 0
theorem fillK_length (zs : List Int) (k : Nat) (h : k ≤ zs.length) : (fillK zs k).length = zs.length := by
  unfold fillK
  rw [List.length_append, List.length_take, List.length_replicate]
  omega
theorem fillK_zero (zs : List Int) : fillK zs 0 = List.replicate zs.length 0 := by unfold fillK; simp
theorem fillK_all (zs : List Int) : fillK zs zs.length = zs := by unfold fillK; simp
theorem fillK_set (zs : List Int) (k : Nat) (h : k < zs.length) : (fillK zs k).set k (zs[k]?.getD 0) = fillK zs (k + 1) := by
  have e0 := fillK_length zs k (by omega)
  have e1 := fillK_length zs (k + 1) (by omega)
  unfold fillK at *
  apply List.ext_getElem
  · rw [List.length_set, e0, e1]
  · intro i h1 h2
    rw [List.getElem_set]
    by_cases e : k = i
    · subst e
      rw [if_pos rfl, List.getElem_append_left (by rw [List.length_take]; omega), List.getElem_take, List.getElem?_eq_getElem h]
      rfl
    · rw [if_neg e]
      by_cases c : i < k
      · rw [List.getElem_append_left (by rw [List.length_take]; omega), List.getElem_append_left (by rw [List.length_take]; omega), List.getElem_take, List.getElem_take]
      · rw [List.getElem_append_right (by rw [List.length_take]; omega), List.getElem_append_right (by rw [List.length_take]; omega), List.getElem_replicate, List.getElem_replicate]
theorem refNew_big (R C : Nat) (h1 : 1 ≤ R) (h2 : 1 ≤ C) (h3 : R * C ≤ 1048576) (hr : R ≤ 1048576) (hc : C ≤ 1048576) (w : World) :
    Calls Try.prog 19 #[.int .i64 R, .int .i64 C] w (ZeroMat R C w) := by
  refine (refNew_any R C (by omega) (by omega) w).mono ?_
  intro e w' h
  unfold NewMat at h
  have hb : newB R C = true := by
    unfold newB
    simp only [Bool.and_eq_true, decide_eq_true_eq]
    refine ⟨by omega, by omega, ?_⟩
    have : (R : Int) * C = ((R * C : Nat) : Int) := by simp
    omega
  rw [hb] at h
  exact h
theorem refNew_none (r c : Int) (h : newB r c = false) (hr : -9223372036854775808 ≤ r ∧ r ≤ 9223372036854775807) (hc : -9223372036854775808 ≤ c ∧ c ≤ 9223372036854775807) (w : World) :
    Calls Try.prog 19 #[.int .i64 r, .int .i64 c] w fun e w' => e = .returned (.agg #[.int .i64 0, .int .i64 0, .slice none 0 0]) ∧ Below w.heap.size w w' := by
  refine (refNew_any r c hr hc w).mono ?_
  intro e w' hh
  unfold NewMat at hh
  rw [h] at hh
  exact hh
theorem refMul_b (x y q : Int) (hx : Word x) (hy : Word y) (W : World) : Calls Try.prog 38 #[.int .i64 x, .int .i64 y, .int .i64 q] W fun e w' => e = .returned (.int .i64 (mulq x y q)) ∧ Below W.heap.size W w' :=
  (refMul_any x y q hx.1 hx.2 hy.1 hy.2 W).mono (fun _ w' (h : _ ∧ _) => And.intro h.1 (show Below W.heap.size W w' from h.2 ▸ Below.refl _ _))
set_option maxHeartbeats 4000000 in
theorem refOuter_yes (v u : Value) (ys xs : List Int) (q : Int) (h1 : 1 ≤ ys.length) (h2 : 1 ≤ xs.length) (h3 : ys.length * xs.length ≤ 1048576) (hy : ∀ z ∈ ys, Word z) (hx : ∀ z ∈ xs, Word z) (w : World) (hv : IntsAt .i64 w.heap.size w v ys) (hu : IntsAt .i64 w.heap.size w u xs) :
    Calls Try.prog 28 #[v, u, .int .i64 q] w (Made ys.length xs.length (outL ys xs q) w) := by
  have r2 : ys.length ≤ 1048576 := Nat.le_trans (Nat.le_mul_of_pos_right _ h2) h3
  have c2 : xs.length ≤ 1048576 := Nat.le_trans (Nat.le_mul_of_pos_left _ h1) h3
  have hRCp : 0 < ys.length * xs.length := Nat.mul_pos h1 h2
  rcases hu.form with ⟨_, e0⟩ | ⟨bx, offx, cx, rfl, hcapx, hbx, hcsx⟩
  · rw [e0] at h2; cases h2
  rcases hv.form with ⟨_, e0⟩ | ⟨b, off, cy, rfl, hcap, hb, hcs⟩
  · rw [e0] at h1; cases h1
  have HN := Lib.hid (fun W => refNew_big ys.length xs.length h1 h2 h3 r2 c2 W)
  have B0 := Lib.hid ((Below.refl w.heap.size w).alloc (Nat.le_refl _) (.cells #[.int .i64 0, .int .i64 0, .slice none 0 0] 24))
  have Z0 := Lib.hid (Cell3.new w (.int .i64 0) (.int .i64 0) (.slice none 0 0) 24)
  have HCY := Lib.hid hcs
  have HCX := Lib.hid hcsx
  have HY := Lib.hid hy
  have HX := Lib.hid hx
  have hOL := outL_length ys xs q
  have HOG := Lib.hid (fun i h => outL_get ys xs q i h)
  generalize outL ys xs q = ol at *
  have HOL := Lib.hid hOL
  clear hv hu hy hx hcs hcsx hOL
  have hs0 : (w.alloc (.cells #[.int .i64 0, .int .i64 0, .slice none 0 0] 24)).heap.size = w.heap.size + 1 := by simp
  go_enter Try.func28, Try.ntmps28
  go_upto_region 1 with fail
  generalize w.alloc (.cells #[.int .i64 0, .int .i64 0, .slice none 0 0] 24) = W0 at *
  go_wp2_with fail
  refine (HN.out _).mono ?_
  rintro e w2 ⟨t, rfl, ot, b2⟩
  obtain ⟨gt, ct, rfl, g1, g2⟩ := own_some ot hRCp
  have b3 := (Below.refl w2.heap.size w2).alloc (Nat.le_refl _) (.cells #[.int .i64 ys.length, .int .i64 xs.length, .slice (some ⟨gt, 0, none⟩) (ys.length * xs.length) ct] 24)
  have M3 := Lib.hid (Is3.new w2 (.int .i64 ys.length) (.int .i64 xs.length) (.slice (some ⟨gt, 0, none⟩) (ys.length * xs.length) ct) 24)
  have Z3 := Lib.hid ((Z0.out.later b2).later b3)
  have hb2 := b2.size
  rw [hs0] at hb2 g1
  have B3 := Lib.hid (below_step (below_step B0.out b2) b3)
  have OT3 := Lib.hid (own_below ot b3)
  have hs3 : (w2.alloc (.cells #[.int .i64 ys.length, .int .i64 xs.length, .slice (some ⟨gt, 0, none⟩) (ys.length * xs.length) ct] 24)).heap.size = w2.heap.size + 1 := by simp
  rw [hs0] at OT3
  clear b2 b3 ot Z0 B0 hs0
  go_upto_region 2 with fail
  generalize w2.alloc (.cells #[.int .i64 ys.length, .int .i64 xs.length, .slice (some ⟨gt, 0, none⟩) (ys.length * xs.length) ct] 24) = W3 at *
  generalize w2.heap.size = T at *
  have hs3l : T < W3.heap.size := by omega
  obtain ⟨m0, m1, m2⟩ := M3.out
  have hNB : w.heap.size ≤ W3.heap.size := by omega
  go_wp2_with fail
  go_loopw [8] (fun i wr => ∃ k : Nat, k ≤ ys.length * xs.length ∧ i = .int .i64 k ∧ wr.ownsRow (w.heap.size + 1) 2 1 (.slice (some ⟨gt, 0, none⟩) (ys.length * xs.length) ct) (ys.length * xs.length) ((fillK ol k).map (Value.int .i64)) ∧ W3.grownBy wr (some gt)) (fun i _ => ys.length * xs.length - (intOf i).toNat)
  case atStart => exact ⟨0, Nat.zero_le _, rfl, by rw [fillK_zero, HOL.out, List.map_replicate]; exact OT3.out, grown_below (Below.refl _ _) _⟩
  case round =>
    obtain ⟨k, hk, rfl, ho, hG⟩ := hrel
    have M4 := Lib.hid (M3.out.grown hG (fun e => absurd (Option.some.inj e) (by omega)))
    clear m0 m1 m2
    obtain ⟨m0, m1, m2⟩ := M4.out
    have BW := Lib.hid (B3.out.grown hG (by omega) (fun k e => by cases e; omega))
    by_cases hlt : k < ys.length * xs.length
    · have hq1 := div_lt_of hlt
      have hq2 := mod_lt_of hlt
      have cy_ := (BW.out.cell (p := ⟨b, off + k / xs.length, none⟩) hb).trans (HCY.out _ hq1)
      have cx_ := (BW.out.cell (p := ⟨bx, offx + k % xs.length, none⟩) hbx).trans (HCX.out _ hq2)
      have hye := HY.out (ys[k / xs.length]?.getD 0) (by rw [List.getElem?_eq_getElem hq1]; exact List.getElem_mem _)
      have hxe := HX.out (xs[k % xs.length]?.getD 0) (by rw [List.getElem?_eq_getElem hq2]; exact List.getElem_mem _)
      have hby := World.block_lt_of_cell? _ _ cy_
      have hbx := World.block_lt_of_cell? _ _ cx_
      have hog := HOG.out k hlt
      rw [mulq_comm] at hog
      have hset := fillK_set ol k (by rw [HOL.out]; exact hlt)
      have HFL := Lib.hid (fillK_length ol k (by rw [HOL.out]; exact hk))
      rw [hog] at hset
      have HSET := Lib.hid hset
      have t1 : (k : Int).tdiv (xs.length : Int) = ((k / xs.length : Nat) : Int) := by rw [Int.tdiv_eq_ediv_of_nonneg (by omega)]; rfl
      have t2 : (k : Int).tmod (xs.length : Int) = ((k % xs.length : Nat) : Int) := by rw [Int.tmod_eq_emod_of_nonneg (by omega)]; rfl
      have t3 : (k : Int) / (xs.length : Int) = ((k / xs.length : Nat) : Int) := rfl
      have t4 : (k : Int) % (xs.length : Int) = ((k % xs.length : Nat) : Int) := rfl
      generalize hd : k / xs.length = d at *
      generalize hmm : k % xs.length = m at *
      generalize ys[d]?.getD 0 = y at *
      generalize xs[m]?.getD 0 = x at *
      have t5 : IntKind.i64.wrap (d : Int) = d := IntWalk.i64_in _ (by omega)
      have t6 : IntKind.i64.wrap (m : Int) = m := IntWalk.i64_in _ (by omega)
      have x0 : ¬ xs = [] := by intro e; rw [e] at h2; cases h2
      have i1 : (d : Int) < (ys.length : Int) := by omega
      have i2 : (m : Int) < (xs.length : Int) := by omega
      have i3 : (0 : Int) ≤ (d : Int) := by omega
      have i4 : (0 : Int) ≤ (m : Int) := by omega
      have i5 : (k : Int) < ((ys.length * xs.length : Nat) : Int) := by omega
      have HM := Lib.hid (fun W => refMul_b y x q hye hxe W)
      generalize mulq y x q = p at *
      have HO := Lib.hid ho
      have HG := Lib.hid hG
      clear ho hG hset hog hd hmm hye hxe
      go_wp2_with fail
      refine wp_region_held_drew (S := fun w' => w'.cell? ⟨T, 1, none⟩ = some (.int .i64 xs.length) ∧ w'.cell? ⟨T, 2, none⟩ = some (.slice (some ⟨gt, 0, none⟩) (ys.length * xs.length) ct) ∧ w'.cell? ⟨b, off + d, none⟩ = some (.int .i64 y) ∧ w'.cell? ⟨bx, offx + m, none⟩ = some (.int .i64 x)) (by kernel_rfl) ?_ (fun hHeld => ?_)
      · exact ⟨m1, m2, cy_, cx_⟩
      refine wpAnyH_take (i := 0) (v := ?v1) rfl (by kernel_rfl) (by kernel_rfl) (by kernel_rfl) (fun _ _ _ h => h) (Or.inl ⟨by rfl, ?hy1⟩) (by assumption) ?rest1
      case hy1 => (intro w hSw; (try dsimp only at hSw); go_simp; (first | done | with_reducible rfl))
      simp only [Act.put, List.setIfInBounds_toArray, List.set_cons_zero, List.set_cons_succ, List.getElem_toArray, List.getElem_cons_zero]
      refine wpAnyH_take (i := 1) (v := ?v2) rfl (by kernel_rfl) (by kernel_rfl) (by kernel_rfl) (fun _ _ _ h => h) (Or.inl ⟨by rfl, ?hy2⟩) (by assumption) ?rest2
      case hy2 => (intro w hSw; (try dsimp only at hSw); go_simp; (first | done | with_reducible rfl))
      simp only [Act.put, List.setIfInBounds_toArray, List.set_cons_zero, List.set_cons_succ, List.getElem_toArray, List.getElem_cons_zero, List.getElem_cons_succ]
      refine wpAnyH_take (i := 2) (v := ?v3) rfl (by kernel_rfl) (by kernel_rfl) (by kernel_rfl) (fun _ _ _ h => h) (Or.inl ⟨by rfl, ?hy3⟩) (by assumption) ?rest3
      case hy3 => (intro w hSw; (try dsimp only at hSw); go_simp; (first | done | with_reducible rfl))
      simp only [Act.put, List.setIfInBounds_toArray, List.set_cons_zero, List.set_cons_succ, List.getElem_toArray, List.getElem_cons_zero, List.getElem_cons_succ]
      refine wpAnyH_take (i := 3) (v := ?v4) rfl (by kernel_rfl) (by kernel_rfl) (by kernel_rfl) (fun _ _ _ h => h) (Or.inl ⟨by rfl, ?hy4⟩) (by assumption) ?rest4
      case hy4 => (intro w hSw; (try dsimp only at hSw); go_simp; (first | done | with_reducible rfl))
      simp only [Act.put, List.setIfInBounds_toArray, List.set_cons_zero, List.set_cons_succ, List.getElem_toArray, List.getElem_cons_zero, List.getElem_cons_succ]
      refine wpAnyH_take (i := 4) (v := ?v5) rfl (by kernel_rfl) (by kernel_rfl) (by kernel_rfl) (fun _ _ _ h => h) (Or.inl ⟨by rfl, ?hy5⟩) (by assumption) ?rest5
      case hy5 => (intro w hSw; (try dsimp only at hSw); go_simp; (first | done | with_reducible rfl))
      simp only [Act.put, List.setIfInBounds_toArray, List.set_cons_zero, List.set_cons_succ, List.getElem_toArray, List.getElem_cons_zero, List.getElem_cons_succ]
      refine wpAnyH_take (i := 5) (v := ?v6) rfl (by kernel_rfl) (by kernel_rfl) (by kernel_rfl) (fun _ _ _ h => h) (Or.inl ⟨by rfl, ?hy6⟩) (by assumption) ?rest6
      case hy6 => (intro w hSw; (try dsimp only at hSw); go_simp; (first | done | with_reducible rfl))
      simp only [Act.put, List.setIfInBounds_toArray, List.set_cons_zero, List.set_cons_succ, List.getElem_toArray, List.getElem_cons_zero, List.getElem_cons_succ]
      refine wpAnyH_take (i := 6) (v := ?v7) rfl (by kernel_rfl) (by kernel_rfl) (by kernel_rfl) (fun _ _ _ h => h) (Or.inl ⟨by rfl, ?hy7⟩) (by assumption) ?rest7
      case hy7 => (intro w hSw; (try dsimp only at hSw); go_simp; (first | done | with_reducible rfl))
      simp only [Act.put, List.setIfInBounds_toArray, List.set_cons_zero, List.set_cons_succ, List.getElem_toArray, List.getElem_cons_zero, List.getElem_cons_succ]
      refine wpAnyH_take (i := 7) (v := ?v8) rfl (by kernel_rfl) (by kernel_rfl) (by kernel_rfl) (fun _ _ _ h => h) (Or.inl ⟨by rfl, ?hy8⟩) (by assumption) ?rest8
      case hy8 => (intro w hSw; (try dsimp only at hSw); go_simp; (first | done | with_reducible rfl))
      simp only [Act.put, List.setIfInBounds_toArray, List.set_cons_zero, List.set_cons_succ, List.getElem_toArray, List.getElem_cons_zero, List.getElem_cons_succ]
      refine wpAnyH_take (i := 8) (v := ?v9) rfl (by kernel_rfl) (by kernel_rfl) (by kernel_rfl) (fun _ _ _ h => h) (Or.inl ⟨by rfl, ?hy9⟩) (by assumption) ?rest9
      case hy9 => (intro w hSw; (try dsimp only at hSw); go_simp; (first | done | with_reducible rfl))
      simp only [Act.put, List.setIfInBounds_toArray, List.set_cons_zero, List.set_cons_succ, List.getElem_toArray, List.getElem_cons_zero, List.getElem_cons_succ]
      refine wpAnyH_take (i := 9) (v := ?v10) rfl (by kernel_rfl) (by kernel_rfl) (by kernel_rfl) (fun _ _ _ h => h) (Or.inl ⟨by rfl, ?hy10⟩) (by assumption) ?rest10
      case hy10 => (intro w hSw; (try dsimp only at hSw); go_simp; (first | done | with_reducible rfl))
      simp only [Act.put, List.setIfInBounds_toArray, List.set_cons_zero, List.set_cons_succ, List.getElem_toArray, List.getElem_cons_zero, List.getElem_cons_succ]
      refine wpAnyH_take (i := 10) (v := ?v11) rfl (by kernel_rfl) (by kernel_rfl) (by kernel_rfl) (fun _ _ _ h => h) (Or.inl ⟨by rfl, ?hy11⟩) (by assumption) ?rest11
      case hy11 => (intro w hSw; (try dsimp only at hSw); go_simp; (first | done | with_reducible rfl))
      simp only [Act.put, List.setIfInBounds_toArray, List.set_cons_zero, List.set_cons_succ, List.getElem_toArray, List.getElem_cons_zero, List.getElem_cons_succ]
      refine wpAnyH_take (i := 11) (v := ?v12) rfl (by kernel_rfl) (by kernel_rfl) (by kernel_rfl) (fun _ _ _ h => h) (Or.inl ⟨by rfl, ?hy12⟩) (by assumption) ?rest12
      case hy12 => (intro w hSw; (try dsimp only at hSw); go_simp; (first | done | with_reducible rfl))
      simp only [Act.put, List.setIfInBounds_toArray, List.set_cons_zero, List.set_cons_succ, List.getElem_toArray, List.getElem_cons_zero, List.getElem_cons_succ]
      refine wpAnyH_take (i := 12) (v := ?v13) rfl (by kernel_rfl) (by kernel_rfl) (by kernel_rfl) (fun _ _ _ h => h) (Or.inl ⟨by rfl, ?hy13⟩) (by assumption) ?rest13
      case hy13 => (intro w hSw; (try dsimp only at hSw); go_simp; (first | done | with_reducible rfl))
      simp only [Act.put, List.setIfInBounds_toArray, List.set_cons_zero, List.set_cons_succ, List.getElem_toArray, List.getElem_cons_zero, List.getElem_cons_succ]
      refine wpAnyH_take (i := 13) (v := ?v14) rfl (by kernel_rfl) (by kernel_rfl) (by kernel_rfl) (fun _ _ _ h => h) (Or.inl ⟨by rfl, ?hy14⟩) (by assumption) ?rest14
      case hy14 => (intro w hSw; (try dsimp only at hSw); go_simp; (first | done | with_reducible rfl))
      simp only [Act.put, List.setIfInBounds_toArray, List.set_cons_zero, List.set_cons_succ, List.getElem_toArray, List.getElem_cons_zero, List.getElem_cons_succ]
      refine wpAnyH_take (i := 14) (v := ?v15) rfl (by kernel_rfl) (by kernel_rfl) (by kernel_rfl) (fun _ _ _ h => h) (Or.inl ⟨by rfl, ?hy15⟩) (by assumption) ?rest15
      case hy15 => (intro w hSw; (try dsimp only at hSw); go_simp; (first | done | with_reducible rfl))
      simp only [Act.put, List.setIfInBounds_toArray, List.set_cons_zero, List.set_cons_succ, List.getElem_toArray, List.getElem_cons_zero, List.getElem_cons_succ]
      refine wpAnyH_take (i := 15) (v := ?v16) rfl (by kernel_rfl) (by kernel_rfl) (by kernel_rfl) (fun _ _ _ h => h) (Or.inl ⟨by rfl, ?hy16⟩) (by assumption) ?rest16
      case hy16 => (intro w hSw; (try dsimp only at hSw); go_simp; (first | done | with_reducible rfl))
      simp only [Act.put, List.setIfInBounds_toArray, List.set_cons_zero, List.set_cons_succ, List.getElem_toArray, List.getElem_cons_zero, List.getElem_cons_succ]
      refine wpAnyH_take (i := 16) (v := ?v17) rfl (by kernel_rfl) (by kernel_rfl) (by kernel_rfl) (fun _ _ _ h => h) (Or.inl ⟨by rfl, ?hy17⟩) (by assumption) ?rest17
      case hy17 => (intro w hSw; (try dsimp only at hSw); go_simp; (first | done | with_reducible rfl))
      simp only [Act.put, List.setIfInBounds_toArray, List.set_cons_zero, List.set_cons_succ, List.getElem_toArray, List.getElem_cons_zero, List.getElem_cons_succ]
      refine wpAnyH_take (i := 17) (v := ?v18) rfl (by kernel_rfl) (by kernel_rfl) (by kernel_rfl) (fun _ _ _ h => h) (Or.inl ⟨by rfl, ?hy18⟩) (by assumption) ?rest18
      case hy18 => (intro w hSw; (try dsimp only at hSw); go_simp; (first | done | with_reducible rfl))
      simp only [Act.put, List.setIfInBounds_toArray, List.set_cons_zero, List.set_cons_succ, List.getElem_toArray, List.getElem_cons_zero, List.getElem_cons_succ]
      refine wpAnyH_ready (rs := [18]) (by kernel_rfl) (by simp) ?_
      refine AllReadyH.cons rfl (fun K hK => ?_) AllReadyH.nil
      simp only [List.getElem_toArray, List.getElem_cons_zero, List.getElem_cons_succ]
      go_simp
      go_at_call 38
      obtain ⟨h_0, h_1, h_2, h_3⟩ := hHeld
      have OD := Lib.hid (own_below HO.out (Below.refl wr.heap.size wr).drew)
      refine (HM.out _).mono ?_
      rintro e w5 ⟨rfl, b5⟩
      have G5 := Lib.hid (grown_trans HG.out (grown_trans (grown_below (Below.refl wr.heap.size wr).drew (some gt)) (grown_below b5 _)))
      have k0 := cell_step b5 h_0
      have k1 := cell_step b5 h_1
      have k2 := cell_step b5 h_2
      have k3 := cell_step b5 h_3
      have R5 := Lib.hid (own_below OD.out b5)
      clear b5 h_0 h_1 h_2 h_3
      go_wp2_with fail
      refine hK.out _ _ ⟨k0, k1, k2, k3⟩ (fun hHeld => ?_)
      clear hK K
      try simp only [Act.put, List.setIfInBounds_toArray, List.set_cons_zero, List.set_cons_succ, List.getElem_toArray, List.getElem_cons_zero, List.getElem_cons_succ]
      refine wpAnyH_take (i := 19) (v := ?v19) rfl (by kernel_rfl) (by kernel_rfl) (by kernel_rfl) (fun _ _ _ h => h) (Or.inl ⟨by rfl, ?hy19⟩) (by assumption) ?rest19
      case hy19 => (intro w hSw; (try dsimp only at hSw); go_simp; (first | done | with_reducible rfl))
      simp only [Act.put, List.setIfInBounds_toArray, List.set_cons_zero, List.set_cons_succ, List.getElem_toArray, List.getElem_cons_zero, List.getElem_cons_succ]
      refine wpAnyH_ready (rs := [20]) (by kernel_rfl) (by simp) ?_
      refine AllReadyH.cons rfl (fun K hK => ?_) AllReadyH.nil
      simp only [List.getElem_toArray, List.getElem_cons_zero, List.getElem_cons_succ]
      have rc := R5.out.cellAt k (by rw [Nat.mul_one]; exact hlt)
      have rf := R5.out.frozenAt k
      rw [List.getElem?_map, List.getElem?_eq_getElem (by rw [HFL.out, HOL.out]; exact hlt), Option.map_some] at rc
      go_simp
      have ST := R5.out.stored k (.int .i64 p)
      rw [List.set_map_eq, HSET.out] at ST
      have l0 := World.block_lt_of_cell? _ _ k0
      have l2 := World.block_lt_of_cell? _ _ k2
      have l3 := World.block_lt_of_cell? _ _ k3
      refine hK.out _ _ ⟨(grown_cell ST.2 l0 (show T ≠ gt by omega)).trans k0, (grown_cell ST.2 l0 (show T ≠ gt by omega)).trans k1, (grown_cell ST.2 l2 (show b ≠ gt by omega)).trans k2, (grown_cell ST.2 l3 (show bx ≠ gt by omega)).trans k3⟩ (fun hHeld => ?_)
      clear hK K
      try simp only [Act.put, List.setIfInBounds_toArray, List.set_cons_zero, List.set_cons_succ, List.getElem_toArray, List.getElem_cons_zero, List.getElem_cons_succ]
      refine wpAnyH_done (by kernel_rfl) ?_ _
      have GZ := Lib.hid (grown_trans G5.out ST.2)
      have OZ := Lib.hid ST.1
      clear ST rc rf
      generalize w5.setCell ⟨gt, k, none⟩ (.int .i64 p) = wz at *
      go_wp2_with fail
      go_roundw
      case rel => exact ⟨k + 1, by omega, by go_num, OZ.out, GZ.out⟩
      case measure => simp [intOf]; omega
    · have hk' : k = ys.length * xs.length := by omega
      rw [hk', ← HOL.out, fillK_all, HOL.out] at ho
      have CB : Cell3 w.heap.size wr := by
        have gb := hG.block w.heap.size (Nat.lt_of_lt_of_le (Nat.lt_succ_self _) (by omega)) (fun e => absurd (Option.some.inj e) (by omega))
        obtain ⟨⟨x, c0⟩, ⟨y, c1⟩, ⟨z, c2⟩, f0, f1, f2⟩ := Z3.out
        refine ⟨⟨x, ?_⟩, ⟨y, ?_⟩, ⟨z, ?_⟩, ?_, ?_, ?_⟩
        · rw [← c0]; simp only [World.cell?, gb]
        · rw [← c1]; simp only [World.cell?, gb]
        · rw [← c2]; simp only [World.cell?, gb]
        · rw [← f0]; simp only [World.frozen?, gb]
        · rw [← f1]; simp only [World.frozen?, gb]
        · rw [← f2]; simp only [World.frozen?, gb]
      have ST := Lib.hid (stored3 CB (.int .i64 ys.length) (.int .i64 xs.length) (.slice (some ⟨gt, 0, none⟩) (ys.length * xs.length) ct))
      obtain ⟨⟨x, c0⟩, ⟨y, c1⟩, ⟨z, c2⟩, f0, f1, f2⟩ := CB
      have WZ := Lib.hid ho
      have hlz := World.block_lt_of_cell? _ _ c0
      have hkk : (k : Int) = ((ys.length * xs.length : Nat) : Int) := by rw [hk']
      have hng : ¬ ((k : Int) < ((ys.length * xs.length : Nat) : Int)) := by omega
      have hng2 : decide (k < ys.length * xs.length) = false := by simpa using hlt
      clear ho hG hk' hlt hkk
      go_wp2_with fail
      (try simp only [Exit.inBlock, Exit.then])
      have D0 := ST.out.1
      have D1 := ST.out.2.1
      have D2 := ST.out.2.2.1
      refine bodyPost_ret (v := .agg #[.int .i64 ys.length, .int .i64 xs.length, .slice (some ⟨gt, 0, none⟩) (ys.length * xs.length) ct]) (by simp [results, Try.results28, D0, D1, D2, go_sem]) rfl ?_
      refine ⟨_, rfl, .inr ?_, BW.out.trans (ST.out.2.2.2.mono (Nat.le_refl _))⟩
      refine IntsAt.of_owns HOL.out.symm (ownsRow_setCell_below (ownsRow_setCell_below (ownsRow_setCell_below WZ.out (a := ⟨w.heap.size, 0, none⟩) ?_ _) (a := ⟨w.heap.size, 1, none⟩) ?_ _) (a := ⟨w.heap.size, 2, none⟩) ?_ _) <;> exact Nat.lt_succ_self _
set_option maxHeartbeats 2000000 in
theorem refOuter_no (v u : Value) (ys xs : List Int) (q : Int) (hm1 : ys.length ≤ maxLen) (hm2 : xs.length ≤ maxLen) (h : newB ys.length xs.length = false) (w : World) (hv : IntsAt .i64 w.heap.size w v ys) (hu : IntsAt .i64 w.heap.size w u xs) :
    Calls Try.prog 28 #[v, u, .int .i64 q] w (Made 0 0 [] w) := by
  unfold maxLen at hm1 hm2
  obtain ⟨ax, cx, rfl⟩ := ints_value hu
  obtain ⟨ay, cy, rfl⟩ := ints_value hv
  have HN := Lib.hid (fun W => refNew_none ys.length xs.length h (by omega) (by omega) W)
  have B0 := Lib.hid ((Below.refl w.heap.size w).alloc (Nat.le_refl _) (.cells #[.int .i64 0, .int .i64 0, .slice none 0 0] 24))
  have Z0 := Lib.hid (Cell3.new w (.int .i64 0) (.int .i64 0) (.slice none 0 0) 24)
  clear hv hu h
  go_enter Try.func28, Try.ntmps28
  go_upto_region 1 with fail
  generalize w.alloc (.cells #[.int .i64 0, .int .i64 0, .slice none 0 0] 24) = W0 at *
  go_wp2_with fail
  refine (HN.out _).mono ?_
  rintro e w2 ⟨rfl, b2⟩
  have b3 := (Below.refl w2.heap.size w2).alloc (Nat.le_refl _) (.cells #[.int .i64 0, .int .i64 0, .slice none 0 0] 24)
  have M3 := Lib.hid (Is3.new w2 (.int .i64 0) (.int .i64 0) (.slice none 0 0) 24)
  have Z3 := Lib.hid ((Z0.out.later b2).later b3)
  have B3 := Lib.hid (below_step (below_step B0.out b2) b3)
  clear b2 b3 Z0 B0
  go_upto_region 2 with fail
  generalize w2.alloc (.cells #[.int .i64 0, .int .i64 0, .slice none 0 0] 24) = W3 at *
  generalize w2.heap.size = T at *
  obtain ⟨m0, m1, m2⟩ := M3.out
  have ST := Lib.hid (stored3 Z3.out (.int .i64 0) (.int .i64 0) (.slice none 0 0))
  obtain ⟨⟨x, c0⟩, ⟨y, c1⟩, ⟨z, c2⟩, f0, f1, f2⟩ := Z3.out
  go_wp2_with fail
  go_loopw [8] (fun i wr => i = .int .i64 0 ∧ wr = W3) (fun i _ => 0)
  case atStart => exact ⟨rfl, rfl⟩
  case round =>
    obtain ⟨rfl, rfl⟩ := hrel
    go_wp2_with fail
    (try simp only [Exit.inBlock, Exit.then])
    have D0 := ST.out.1
    have D1 := ST.out.2.1
    have D2 := ST.out.2.2.1
    refine bodyPost_ret (v := .agg #[.int .i64 0, .int .i64 0, .slice none 0 0]) (by simp [results, Try.results28, D0, D1, D2, go_sem]) rfl ?_
    exact ⟨_, rfl, .inr IntsAt.nil, B3.out.trans (ST.out.2.2.2.mono (Nat.le_refl _))⟩
end Go.Proofs.Ytinflmjombcolaa
