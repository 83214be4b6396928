/- Layer 7: the reference's Turn. -/
import Derived.Test.YtinflmjombcolaaMatO
import Derived.Test.YtinflmjombcolaaAppL
namespace Go.Proofs.Ytinflmjombcolaa
open Go.RowKit
set_option linter.unusedVariables false
theorem Is3.grown {W W' : World} {B : Nat} {x y z : Value} {row : Option Nat} (h : Is3 W B x y z) (g : W.grownBy W' row) (hne : row ≠ some B) : Is3 W' B x y z := by
  have hb := g.block B (World.block_lt_of_cell? _ _ h.c0) (fun e => hne e.symm)
  refine ⟨?_, ?_, ?_⟩
  · rw [← h.c0]; simp only [World.cell?, hb]
  · rw [← h.c1]; simp only [World.cell?, hb]
  · rw [← h.c2]; simp only [World.cell?, hb]
theorem frozen_grown {W W' : World} {B o : Nat} {row : Option Nat} (hB : B < W.heap.size) (g : W.grownBy W' row) (hne : row ≠ some B) : W'.frozen? ⟨B, o, none⟩ = W.frozen? ⟨B, o, none⟩ := by
  simp only [World.frozen?, g.block B hB (fun e => hne e.symm)]
/-- a matrix in a block, whose elements can be stored -/
structure Out3 (W : World) (U : Nat) (x y z : Value) : Prop where
  is3 : Is3 W U x y z
  f2 : W.frozen? ⟨U, 2, none⟩ = false
theorem Out3.lt {W : World} {U : Nat} {x y z : Value} (h : Out3 W U x y z) : U < W.heap.size := World.block_lt_of_cell? _ _ h.is3.c0
theorem Out3.new (w : World) (x y z : Value) (t : TypeId) : Out3 (w.alloc (.cells #[x, y, z] t)) w.heap.size x y z := ⟨Is3.new w x y z t, World.frozen?_alloc_new w _ t 2⟩
theorem Out3.later {W W' : World} {U : Nat} {x y z : Value} (h : Out3 W U x y z) (b : Below W.heap.size W W') : Out3 W' U x y z := ⟨h.is3.later b, frozen_step b h.is3.c2 h.f2⟩
theorem Out3.grown {W W' : World} {U : Nat} {x y z : Value} {row : Option Nat} (h : Out3 W U x y z) (g : W.grownBy W' row) (hne : row ≠ some U) : Out3 W' U x y z := ⟨h.is3.grown g hne, (frozen_grown h.lt g hne).trans h.f2⟩
theorem Out3.stored {W : World} {U : Nat} {x y z : Value} (h : Out3 W U x y z) (z' : Value) : Out3 (W.setCell ⟨U, 2, none⟩ z') U x y z' :=
  ⟨⟨(World.cell?_setCell_other _ _ _ _ (by simp)).trans h.is3.c0, (World.cell?_setCell_other _ _ _ _ (by simp)).trans h.is3.c1, World.cell?_setCell_same _ _ _ h.is3.c2⟩, by rw [World.frozen?_setCell]; exact h.f2⟩
theorem row_ne {w : World} {base size n U : Nat} {e : TypeId} {v : Value} {xs : List Value} (h : w.ownsRow base e size v n xs) (hU : U < base) : v.ownBlock ≠ some U := fun e' => by have := (h.lt U e').1; omega
set_option maxHeartbeats 1000000 in
theorem refTurn_no (r c : Int) (a : Option Addr) (n cap : Nat) (h : rightB r c n = false) (w : World) :
    Calls Try.prog 26 #[.agg #[.int .i64 r, .int .i64 c, .slice a n cap]] w (Made 0 0 [] w) := by
  have AL1 := (Below.refl w.heap.size w).alloc (Nat.le_refl _) (.cells #[.int .i64 r, .int .i64 c, .slice a n cap] 24)
  have AL2 := Lib.hid (below_alloc (o := .cells #[.int .i64 0, .int .i64 0, .slice none 0 0] 24) AL1)
  have hs : (w.alloc (.cells #[.int .i64 r, .int .i64 c, .slice a n cap] 24)).heap.size = w.heap.size + 1 := by simp
  have al := (Below.refl (w.alloc (.cells #[.int .i64 r, .int .i64 c, .slice a n cap] 24)).heap.size (w.alloc (.cells #[.int .i64 r, .int .i64 c, .slice a n cap] 24))).alloc (Nat.le_refl _) (.cells #[.int .i64 0, .int .i64 0, .slice none 0 0] 24)
  have M0 := Lib.hid ((Is3.new w (.int .i64 r) (.int .i64 c) (.slice a n cap) 24).later al)
  have C0 := Cell3.new (w.alloc (.cells #[.int .i64 r, .int .i64 c, .slice a n cap] 24)) (.int .i64 0) (.int .i64 0) (.slice none 0 0) 24
  rw [hs] at C0
  have C0' := Lib.hid C0
  have HR := Lib.hid (fun W => refRight_any r c a n cap W)
  rw [h] at HR
  clear h C0 al hs AL1
  go_enter Try.func26, Try.ntmps26
  go_upto_region 1 with fail
  generalize (w.alloc (.cells #[.int .i64 r, .int .i64 c, .slice a n cap] 24)).alloc (.cells #[.int .i64 0, .int .i64 0, .slice none 0 0] 24) = W0 at *
  obtain ⟨m0, m1, m2⟩ := M0.out
  go_wp2_with fail
  refine (HR.out _).mono ?_
  rintro e w1 ⟨rfl, b1⟩
  have B1 := Lib.hid (below_step AL2.out b1)
  have C1 := C0'.out.later b1
  have ST := Lib.hid (stored3 C1 (.int .i64 0) (.int .i64 0) (.slice none 0 0))
  obtain ⟨⟨x, c0⟩, ⟨y, c1⟩, ⟨z, c2⟩, f0, f1, f2⟩ := C1
  clear b1 m0 m1 m2
  go_wp2_with fail
  (try simp only [Exit.inBlock, Exit.then])
  have D0 := ST.out.1
  have D1 := ST.out.2.1
  have D2 := ST.out.2.2.1
  refine bodyPost_ret (v := .agg #[.int .i64 0, .int .i64 0, .slice none 0 0]) (by simp [results, Try.results26, D0, D1, D2, go_sem]) rfl ?_
  exact ⟨_, rfl, .inr IntsAt.nil, B1.out.trans (ST.out.2.2.2.mono (by omega))⟩
theorem turnL_take (R C : Nat) (zs : List Int) (k : Nat) (h : k < C * R) : (turnL R C zs).take (k + 1) = (turnL R C zs).take k ++ [(turnL R C zs)[k]?.getD 0] := by
  rw [List.take_succ_eq_append_getElem (by rw [turnL_length]; exact h), List.getElem?_eq_getElem (by rw [turnL_length]; exact h)]
  rfl
set_option maxHeartbeats 8000000 in
theorem refTurn_yes (R C : Nat) (v : Value) (zs : List Int) (hr : rightB R C zs.length = true) (hm : zs.length ≤ 1048576) (w : World) (hv0 : IntsW .i64 w.heap.size w v zs) :
    Calls Try.prog 26 #[.agg #[.int .i64 R, .int .i64 C, v]] w (Made C R (turnL R C zs) w) := by
  obtain ⟨r1, r2, c1, c2, hlen⟩ := right_len hr
  obtain ⟨a, cap, rfl⟩ := hv0.value
  have AL1 := (Below.refl w.heap.size w).alloc (Nat.le_refl _) (.cells #[.int .i64 R, .int .i64 C, .slice a zs.length cap] 24)
  have AL2 := Lib.hid (below_alloc (o := .cells #[.int .i64 0, .int .i64 0, .slice none 0 0] 24) AL1)
  have hs : (w.alloc (.cells #[.int .i64 R, .int .i64 C, .slice a zs.length cap] 24)).heap.size = w.heap.size + 1 := by simp
  have al := (Below.refl (w.alloc (.cells #[.int .i64 R, .int .i64 C, .slice a zs.length cap] 24)).heap.size (w.alloc (.cells #[.int .i64 R, .int .i64 C, .slice a zs.length cap] 24))).alloc (Nat.le_refl _) (.cells #[.int .i64 0, .int .i64 0, .slice none 0 0] 24)
  have M0 := Lib.hid ((Is3.new w (.int .i64 R) (.int .i64 C) (.slice a zs.length cap) 24).later al)
  have C0 := Cell3.new (w.alloc (.cells #[.int .i64 R, .int .i64 C, .slice a zs.length cap] 24)) (.int .i64 0) (.int .i64 0) (.slice none 0 0) 24
  rw [hs] at C0
  have C0' := Lib.hid C0
  have V0 := Lib.hid (hv0.later AL2.out)
  have HR := Lib.hid (fun W => refRight_any R C a zs.length cap W)
  rw [hr] at HR
  have HA := Lib.hid (fun (i j : Nat) W => refAt_any R C (.slice a zs.length cap) zs i j hm W)
  have HRB := Lib.hid hr
  have HL := Lib.hid hlen
  clear hr C0 al hs AL1 hv0
  have hCR : C * R ≤ 1048576 := by rw [Nat.mul_comm, ← HL.out]; exact hm
  clear hlen
  go_enter Try.func26, Try.ntmps26
  go_upto_region 1 with fail
  generalize (w.alloc (.cells #[.int .i64 R, .int .i64 C, .slice a zs.length cap] 24)).alloc (.cells #[.int .i64 0, .int .i64 0, .slice none 0 0] 24) = W0 at *
  obtain ⟨m0, m1, m2⟩ := M0.out
  go_wp2_with fail
  refine (HR.out _).mono ?_
  rintro e w1 ⟨rfl, b1⟩
  have B1 := Lib.hid (below_step AL2.out b1)
  have M1 := Lib.hid (M0.out.later b1)
  have C1 := Lib.hid (C0'.out.later b1)
  have V1 := Lib.hid (V0.out.later b1)
  have O2 := Lib.hid (Out3.new w1 (.int .i64 C) (.int .i64 R) (.slice none 0 0) 24)
  have b2 := (Below.refl w1.heap.size w1).alloc (Nat.le_refl _) (.cells #[.int .i64 C, .int .i64 R, .slice none 0 0] 24)
  have B2 := Lib.hid b2
  have hs2 : (w1.alloc (.cells #[.int .i64 C, .int .i64 R, .slice none 0 0] 24)).heap.size = w1.heap.size + 1 := by simp
  clear b1 m0 m1 m2 M0 V0 HR C0' AL2 b2
  obtain ⟨m0, m1, m2⟩ := M1.out
  have hNw : w.heap.size < w1.heap.size := World.block_lt_of_cell? _ _ m0
  have hN1w : w.heap.size + 1 < w1.heap.size := by obtain ⟨x, c0⟩ := C1.out.c0; exact World.block_lt_of_cell? _ _ c0
  have hb1s := B1.out.size
  go_upto_region 4 with fail
  generalize w1.alloc (.cells #[.int .i64 C, .int .i64 R, .slice none 0 0] 24) = W2 at *
  generalize hU : w1.heap.size = U at *
  have HU := Lib.hid hU
  clear m0 m1 m2 hU
  go_wp2_with fail
  go_loopw [4] (fun i wr => ∃ (k : Nat) (o : Value), k ≤ C ∧ i = .int .i64 k ∧ Out3 wr U (.int .i64 C) (.int .i64 R) o ∧ wr.ownsRow (U + 1) 2 1 o (k * R) (((turnL R C zs).take (k * R)).map (Value.int .i64)) ∧ Below U w1 wr) (fun i _ => C - (intOf i).toNat)
  case atStart => exact ⟨0, _, Nat.zero_le _, rfl, O2.out, by rw [Nat.zero_mul, List.take_zero]; exact ⟨rfl, .inl ⟨rfl, rfl⟩⟩, B2.out⟩
  case round =>
    obtain ⟨k, o, hk, rfl, hO, hown, hB⟩ := hrel
    have M2 := Lib.hid (⟨(hB.cell (p := ⟨w.heap.size, 0, none⟩) hNw).trans M1.out.c0, (hB.cell (p := ⟨w.heap.size, 1, none⟩) hNw).trans M1.out.c1, (hB.cell (p := ⟨w.heap.size, 2, none⟩) hNw).trans M1.out.c2⟩ : Is3 wr w.heap.size _ _ _)
    obtain ⟨m0, m1, m2⟩ := M2.out
    by_cases hlt : k < C
    · have HO := Lib.hid hO
      have HW := Lib.hid hown
      have HB := Lib.hid hB
      clear hO hown hB
      generalize hwo : wr = wo at *
      clear hwo wr
      go_wp2_with fail
      go_loopw [5] (fun i wr => ∃ (j : Nat) (o : Value), j ≤ R ∧ i = .int .i64 j ∧ Out3 wr U (.int .i64 C) (.int .i64 R) o ∧ wr.ownsRow (U + 1) 2 1 o (k * R + j) (((turnL R C zs).take (k * R + j)).map (Value.int .i64)) ∧ Below U w1 wr) (fun i _ => R - (intOf i).toNat)
      case atStart => exact ⟨0, _, Nat.zero_le _, rfl, HO.out, HW.out, HB.out⟩
      case round =>
        obtain ⟨j, o2, hj, rfl, hO, hown, hB⟩ := hrel
        have M3 := Lib.hid (⟨(hB.cell (p := ⟨w.heap.size, 0, none⟩) hNw).trans M1.out.c0, (hB.cell (p := ⟨w.heap.size, 1, none⟩) hNw).trans M1.out.c1, (hB.cell (p := ⟨w.heap.size, 2, none⟩) hNw).trans M1.out.c2⟩ : Is3 wr w.heap.size _ _ _)
        clear m0 m1 m2
        obtain ⟨m0, m1, m2⟩ := M3.out
        by_cases hjl : j < R
        · have hkj := idx_lt hlt hjl
          have HT := Lib.hid (turnL_take R C zs _ hkj)
          have hat := (atM_in HRB.out hjl hlt).trans (turnL_at R C zs j k hjl hlt).symm
          have HA2 := Lib.hid (fun W => HA.out j k W)
          rw [hat] at HA2
          obtain ⟨ao, co, rfl⟩ := own_value hown
          have HO3 := Lib.hid hO
          have HW3 := Lib.hid hown
          have HB3 := Lib.hid hB
          have hUw := hO.lt
          have V3 := Lib.hid ((V1.out.below hB).grow (Nat.le_of_lt hUw))
          generalize (turnL R C zs)[k * R + j]?.getD 0 = x at *
          generalize hdone : (turnL R C zs).take (k * R + j) = done at *
          generalize hn : k * R + j = n at *
          have HN := Lib.hid hn
          clear hO hown hB hat hdone hn
          have u2 := HO3.out.is3.c2
          go_wp2_with fail
          refine wp_region_held_drew (S := fun w' => w'.cell? ⟨w.heap.size, 0, none⟩ = some (.int .i64 R) ∧ w'.cell? ⟨w.heap.size, 1, none⟩ = some (.int .i64 C) ∧ w'.cell? ⟨w.heap.size, 2, none⟩ = some (.slice a zs.length cap)) (by kernel_rfl) ?_ (fun hHeld => ?_)
          · exact ⟨m0, m1, m2⟩
          have BD := (Below.refl wr.heap.size wr).drew
          have OD := Lib.hid (HO3.out.later BD)
          have WD := Lib.hid (own_below HW3.out BD)
          have LD := Lib.hid HB3.out.drew
          have VD := Lib.hid (V3.out.later BD)
          have hzd : wr.drew.heap.size = wr.heap.size := rfl
          generalize wr.drew = wd at *
          clear u2 BD
          have u2 := OD.out.is3.c2
          have hUd := OD.out.lt
          refine wpAnyH_take (i := 0) (v := ?v1) rfl (by kernel_rfl) (by kernel_rfl) (by kernel_rfl) (fun _ _ _ h => h) (Or.inl ⟨by rfl, ?hy1⟩) (by assumption) ?rest1
          case hy1 => (intro w hSw; (try dsimp only at hSw); go_simp; (first | done | with_reducible rfl))
          simp only [Act.put, List.setIfInBounds_toArray, List.set_cons_zero, List.set_cons_succ, List.getElem_toArray, List.getElem_cons_zero]
          refine wpAnyH_take (i := 2) (v := ?v2) rfl (by kernel_rfl) (by kernel_rfl) (by kernel_rfl) (fun _ _ _ h => h) (Or.inl ⟨by rfl, ?hy2⟩) (by assumption) ?rest2
          case hy2 => (intro w hSw; (try dsimp only at hSw); go_simp; (first | done | with_reducible rfl))
          simp only [Act.put, List.setIfInBounds_toArray, List.set_cons_zero, List.set_cons_succ, List.getElem_toArray, List.getElem_cons_zero, List.getElem_cons_succ]
          refine wpAnyH_take (i := 3) (v := ?v3) rfl (by kernel_rfl) (by kernel_rfl) (by kernel_rfl) (fun _ _ _ h => h) (Or.inl ⟨by rfl, ?hy3⟩) (by assumption) ?rest3
          case hy3 => (intro w hSw; (try dsimp only at hSw); go_simp; (first | done | with_reducible rfl))
          simp only [Act.put, List.setIfInBounds_toArray, List.set_cons_zero, List.set_cons_succ, List.getElem_toArray, List.getElem_cons_zero, List.getElem_cons_succ]
          refine wpAnyH_take (i := 4) (v := ?v4) rfl (by kernel_rfl) (by kernel_rfl) (by kernel_rfl) (fun _ _ _ h => h) (Or.inl ⟨by rfl, ?hy4⟩) (by assumption) ?rest4
          case hy4 => (intro w hSw; (try dsimp only at hSw); go_simp; (first | done | with_reducible rfl))
          simp only [Act.put, List.setIfInBounds_toArray, List.set_cons_zero, List.set_cons_succ, List.getElem_toArray, List.getElem_cons_zero, List.getElem_cons_succ]
          refine wpAnyH_ready (rs := [1, 5]) (by kernel_rfl) (by simp) ?_
          refine AllReadyH.cons rfl (fun K hK => ?_) ?_
          · try simp only [Act.put, List.setIfInBounds_toArray, List.set_cons_zero, List.set_cons_succ, List.getElem_toArray, List.getElem_cons_zero, List.getElem_cons_succ]
            go_simp
            refine hK.out _ _ hHeld (fun hHeld => ?_)
            clear hK K
            try simp only [Act.put, List.setIfInBounds_toArray, List.set_cons_zero, List.set_cons_succ, List.getElem_toArray, List.getElem_cons_zero, List.getElem_cons_succ]
            refine wpAnyH_ready (rs := [5]) (by kernel_rfl) (by simp) ?_
            refine AllReadyH.cons rfl (fun K hK => ?_) AllReadyH.nil
            simp only [List.getElem_toArray, List.getElem_cons_zero, List.getElem_cons_succ]
            try simp only [Act.put, List.setIfInBounds_toArray, List.set_cons_zero, List.set_cons_succ]
            go_simp
            go_at_call 17
            refine (HA2.out _ VD.out).mono ?_
            rintro e w5 ⟨rfl, b5⟩
            have O5 := Lib.hid (OD.out.later b5)
            have W5 := Lib.hid (own_below WD.out b5)
            have L5 := Lib.hid (LD.out.trans (b5.mono (Nat.le_of_lt hUd)))
            obtain ⟨h_0, h_1, h_2⟩ := hHeld
            have n0 := cell_step b5 h_0
            have n1 := cell_step b5 h_1
            have n2 := cell_step b5 h_2
            clear b5 h_0 h_1 h_2
            go_wp2_with fail
            refine hK.out _ _ ⟨n0, n1, n2⟩ (fun hHeld => ?_)
            clear hK K
            try simp only [Act.put, List.setIfInBounds_toArray, List.set_cons_zero, List.set_cons_succ, List.getElem_toArray, List.getElem_cons_zero, List.getElem_cons_succ]
            have hU5 := O5.out.lt
            have al := (Below.refl w5.heap.size w5).alloc (Nat.le_refl _) (.cells #[.int .i64 x] 2)
            refine wpAnyH_ready (rs := [6]) (by kernel_rfl) (by simp) ?_
            refine AllReadyH.cons rfl (fun K hK => ?_) AllReadyH.nil
            simp only [List.getElem_toArray, List.getElem_cons_zero, List.getElem_cons_succ]
            go_simp
            refine hK.out _ _ ⟨cell_step al n0, cell_step al n1, cell_step al n2⟩ (fun hHeld => ?_)
            clear hK K
            try simp only [Act.put, List.setIfInBounds_toArray, List.set_cons_zero, List.set_cons_succ, List.getElem_toArray, List.getElem_cons_zero, List.getElem_cons_succ]
            refine wpAnyH_ready (rs := [7]) (by kernel_rfl) (by simp) ?_
            refine AllReadyH.cons rfl (fun K hK => ?_) AllReadyH.nil
            simp only [List.getElem_toArray, List.getElem_cons_zero, List.getElem_cons_succ]
            try simp only [Act.put, List.setIfInBounds_toArray, List.set_cons_zero, List.set_cons_succ]
            refine step_one_lies (a := ⟨_, _⟩) (W := w5) (v := .slice ao n co) (g := w5.heap.size) (news := #[.int .i64 x]) elemRef (by rfl) _ _ (by rfl) (by rfl) (by rfl) rfl rfl W5.out rfl ?_ ?_ ?_ ?_ ?_
            · simp [Value.oneCell']
            · unfold maxLen; omega
            · omega
            · omega
            intro b' cap' w9 ho9 hg9 hat9
            have hne : (Value.slice ao n co).ownBlock ≠ some U := row_ne W5.out (Nat.lt_succ_self U)
            have hneN : (Value.slice ao n co).ownBlock ≠ some w.heap.size := row_ne W5.out (by omega)
            have O9 := Lib.hid (O5.out.grown hg9 hne)
            have HO9 := Lib.hid ho9
            have L9 := Lib.hid (below_appended L5.out W5.out hg9 (Nat.le_succ U) (Nat.le_of_lt hU5))
            have N9 := Is3.grown ⟨n0, n1, n2⟩ hg9 hneN
            refine hK.out _ _ ⟨N9.c0, N9.c1, N9.c2⟩ (fun hHeld => ?_)
            clear hK K ho9 hg9 hat9 hHeld
            have hHeld := And.intro N9.c0 (And.intro N9.c1 N9.c2)
            try simp only [Act.put, List.setIfInBounds_toArray, List.set_cons_zero, List.set_cons_succ]
            refine wpAnyH_take (i := 8) (v := ?v5) rfl (by kernel_rfl) (by kernel_rfl) (by kernel_rfl) (fun _ _ _ h => h) (Or.inl ⟨by rfl, ?hy5⟩) (by assumption) ?rest5
            case hy5 => (intro w hSw; (try dsimp only at hSw); go_simp; (first | done | with_reducible rfl))
            simp only [Act.put, List.setIfInBounds_toArray, List.set_cons_zero, List.set_cons_succ, List.getElem_toArray, List.getElem_cons_zero, List.getElem_cons_succ]
            refine wpAnyH_ready (rs := [9]) (by kernel_rfl) (by simp) ?_
            refine AllReadyH.cons rfl (fun K hK => ?_) AllReadyH.nil
            simp only [List.getElem_toArray, List.getElem_cons_zero, List.getElem_cons_succ]
            have u9 := O9.out.is3.c2
            have f9 := O9.out.f2
            go_simp
            have N10 : Is3 (w9.setCell ⟨U, 2, none⟩ (.slice (some ⟨b', 0, none⟩) (n + 1) cap')) w.heap.size _ _ _ := N9.grown (grown_set w9 U 2 _) (fun e => absurd (Option.some.inj e) (by omega))
            refine hK.out _ _ ⟨N10.c0, N10.c1, N10.c2⟩ (fun hHeld => ?_)
            clear hK K
            try simp only [Act.put, List.setIfInBounds_toArray, List.set_cons_zero, List.set_cons_succ, List.getElem_toArray, List.getElem_cons_zero, List.getElem_cons_succ]
            refine wpAnyH_done (by kernel_rfl) ?_ _
            have OZ := Lib.hid (O9.out.stored (.slice (some ⟨b', 0, none⟩) (n + 1) cap'))
            have WZ := Lib.hid (ownsRow_setCell_below HO9.out (a := ⟨U, 2, none⟩) (Nat.lt_succ_self U) (.slice (some ⟨b', 0, none⟩) (n + 1) cap'))
            have LZ := Lib.hid (below_set (x := .slice (some ⟨b', 0, none⟩) (n + 1) cap') (o := 2) L9.out (Nat.le_refl U))
            clear u9 f9 N9 N10
            generalize w9.setCell ⟨U, 2, none⟩ (.slice (some ⟨b', 0, none⟩) (n + 1) cap') = wz at *
            go_wp2_with fail
            go_roundw
            case rel => exact ⟨j + 1, _, by omega, by go_num, OZ.out, by rw [← Nat.add_assoc, HN.out, HT.out, List.map_append]; exact WZ.out, LZ.out⟩
            case measure => simp [intOf]; omega
          · refine AllReadyH.cons rfl (fun K hK => ?_) AllReadyH.nil
            try simp only [Act.put, List.setIfInBounds_toArray, List.set_cons_zero, List.set_cons_succ, List.getElem_toArray, List.getElem_cons_zero, List.getElem_cons_succ]
            go_simp
            go_at_call 17
            refine (HA2.out _ VD.out).mono ?_
            rintro e w5 ⟨rfl, b5⟩
            have O5 := Lib.hid (OD.out.later b5)
            have W5 := Lib.hid (own_below WD.out b5)
            have L5 := Lib.hid (LD.out.trans (b5.mono (Nat.le_of_lt hUd)))
            obtain ⟨h_0, h_1, h_2⟩ := hHeld
            have n0 := cell_step b5 h_0
            have n1 := cell_step b5 h_1
            have n2 := cell_step b5 h_2
            clear b5 h_0 h_1 h_2
            go_wp2_with fail
            refine hK.out _ _ ⟨n0, n1, n2⟩ (fun hHeld => ?_)
            clear hK K
            try simp only [Act.put, List.setIfInBounds_toArray, List.set_cons_zero, List.set_cons_succ, List.getElem_toArray, List.getElem_cons_zero, List.getElem_cons_succ]
            have hU5 := O5.out.lt
            have al := (Below.refl w5.heap.size w5).alloc (Nat.le_refl _) (.cells #[.int .i64 x] 2)
            have u5 := O5.out.is3.c2
            refine wpAnyH_ready (rs := [1, 6]) (by kernel_rfl) (by simp) ?_
            refine AllReadyH.cons rfl (fun K hK => ?_) ?_
            · try simp only [Act.put, List.setIfInBounds_toArray, List.set_cons_zero, List.set_cons_succ, List.getElem_toArray, List.getElem_cons_zero, List.getElem_cons_succ]
              go_simp
              refine hK.out _ _ hHeld (fun hHeld => ?_)
              clear hK K
              try simp only [Act.put, List.setIfInBounds_toArray, List.set_cons_zero, List.set_cons_succ, List.getElem_toArray, List.getElem_cons_zero, List.getElem_cons_succ]
              refine wpAnyH_ready (rs := [6]) (by kernel_rfl) (by simp) ?_
              refine AllReadyH.cons rfl (fun K hK => ?_) AllReadyH.nil
              simp only [List.getElem_toArray, List.getElem_cons_zero, List.getElem_cons_succ]
              go_simp
              refine hK.out _ _ ⟨cell_step al n0, cell_step al n1, cell_step al n2⟩ (fun hHeld => ?_)
              clear hK K
              try simp only [Act.put, List.setIfInBounds_toArray, List.set_cons_zero, List.set_cons_succ, List.getElem_toArray, List.getElem_cons_zero, List.getElem_cons_succ]
              refine wpAnyH_ready (rs := [7]) (by kernel_rfl) (by simp) ?_
              refine AllReadyH.cons rfl (fun K hK => ?_) AllReadyH.nil
              simp only [List.getElem_toArray, List.getElem_cons_zero, List.getElem_cons_succ]
              try simp only [Act.put, List.setIfInBounds_toArray, List.set_cons_zero, List.set_cons_succ]
              refine step_one_lies (a := ⟨_, _⟩) (W := w5) (v := .slice ao n co) (g := w5.heap.size) (news := #[.int .i64 x]) elemRef (by rfl) _ _ (by rfl) (by rfl) (by rfl) rfl rfl W5.out rfl ?_ ?_ ?_ ?_ ?_
              · simp [Value.oneCell']
              · unfold maxLen; omega
              · omega
              · omega
              intro b' cap' w9 ho9 hg9 hat9
              have hne : (Value.slice ao n co).ownBlock ≠ some U := row_ne W5.out (Nat.lt_succ_self U)
              have hneN : (Value.slice ao n co).ownBlock ≠ some w.heap.size := row_ne W5.out (by omega)
              have O9 := Lib.hid (O5.out.grown hg9 hne)
              have HO9 := Lib.hid ho9
              have L9 := Lib.hid (below_appended L5.out W5.out hg9 (Nat.le_succ U) (Nat.le_of_lt hU5))
              have N9 := Is3.grown ⟨n0, n1, n2⟩ hg9 hneN
              refine hK.out _ _ ⟨N9.c0, N9.c1, N9.c2⟩ (fun hHeld => ?_)
              clear hK K ho9 hg9 hat9 hHeld
              have hHeld := And.intro N9.c0 (And.intro N9.c1 N9.c2)
              try simp only [Act.put, List.setIfInBounds_toArray, List.set_cons_zero, List.set_cons_succ]
              refine wpAnyH_take (i := 8) (v := ?v6) rfl (by kernel_rfl) (by kernel_rfl) (by kernel_rfl) (fun _ _ _ h => h) (Or.inl ⟨by rfl, ?hy6⟩) (by assumption) ?rest6
              case hy6 => (intro w hSw; (try dsimp only at hSw); go_simp; (first | done | with_reducible rfl))
              simp only [Act.put, List.setIfInBounds_toArray, List.set_cons_zero, List.set_cons_succ, List.getElem_toArray, List.getElem_cons_zero, List.getElem_cons_succ]
              refine wpAnyH_ready (rs := [9]) (by kernel_rfl) (by simp) ?_
              refine AllReadyH.cons rfl (fun K hK => ?_) AllReadyH.nil
              simp only [List.getElem_toArray, List.getElem_cons_zero, List.getElem_cons_succ]
              have u9 := O9.out.is3.c2
              have f9 := O9.out.f2
              go_simp
              have N10 : Is3 (w9.setCell ⟨U, 2, none⟩ (.slice (some ⟨b', 0, none⟩) (n + 1) cap')) w.heap.size _ _ _ := N9.grown (grown_set w9 U 2 _) (fun e => absurd (Option.some.inj e) (by omega))
              refine hK.out _ _ ⟨N10.c0, N10.c1, N10.c2⟩ (fun hHeld => ?_)
              clear hK K
              try simp only [Act.put, List.setIfInBounds_toArray, List.set_cons_zero, List.set_cons_succ, List.getElem_toArray, List.getElem_cons_zero, List.getElem_cons_succ]
              refine wpAnyH_done (by kernel_rfl) ?_ _
              have OZ := Lib.hid (O9.out.stored (.slice (some ⟨b', 0, none⟩) (n + 1) cap'))
              have WZ := Lib.hid (ownsRow_setCell_below HO9.out (a := ⟨U, 2, none⟩) (Nat.lt_succ_self U) (.slice (some ⟨b', 0, none⟩) (n + 1) cap'))
              have LZ := Lib.hid (below_set (x := .slice (some ⟨b', 0, none⟩) (n + 1) cap') (o := 2) L9.out (Nat.le_refl U))
              clear u9 f9 N9 N10
              generalize w9.setCell ⟨U, 2, none⟩ (.slice (some ⟨b', 0, none⟩) (n + 1) cap') = wz at *
              go_wp2_with fail
              go_roundw
              case rel => exact ⟨j + 1, _, by omega, by go_num, OZ.out, by rw [← Nat.add_assoc, HN.out, HT.out, List.map_append]; exact WZ.out, LZ.out⟩
              case measure => simp [intOf]; omega
            · refine AllReadyH.cons rfl (fun K hK => ?_) AllReadyH.nil
              try simp only [Act.put, List.setIfInBounds_toArray, List.set_cons_zero, List.set_cons_succ, List.getElem_toArray, List.getElem_cons_zero, List.getElem_cons_succ]
              go_simp
              refine hK.out _ _ ⟨cell_step al n0, cell_step al n1, cell_step al n2⟩ (fun hHeld => ?_)
              clear hK K
              try simp only [Act.put, List.setIfInBounds_toArray, List.set_cons_zero, List.set_cons_succ, List.getElem_toArray, List.getElem_cons_zero, List.getElem_cons_succ]
              have u6 := cell_step al u5
              refine wpAnyH_ready (rs := [1]) (by kernel_rfl) (by simp) ?_
              refine AllReadyH.cons rfl (fun K hK => ?_) AllReadyH.nil
              simp only [List.getElem_toArray, List.getElem_cons_zero, List.getElem_cons_succ]
              go_simp
              refine hK.out _ _ hHeld (fun hHeld => ?_)
              clear hK K
              try simp only [Act.put, List.setIfInBounds_toArray, List.set_cons_zero, List.set_cons_succ, List.getElem_toArray, List.getElem_cons_zero, List.getElem_cons_succ]
              refine wpAnyH_ready (rs := [7]) (by kernel_rfl) (by simp) ?_
              refine AllReadyH.cons rfl (fun K hK => ?_) AllReadyH.nil
              simp only [List.getElem_toArray, List.getElem_cons_zero, List.getElem_cons_succ]
              try simp only [Act.put, List.setIfInBounds_toArray, List.set_cons_zero, List.set_cons_succ]
              refine step_one_lies (a := ⟨_, _⟩) (W := w5) (v := .slice ao n co) (g := w5.heap.size) (news := #[.int .i64 x]) elemRef (by rfl) _ _ (by rfl) (by rfl) (by rfl) rfl rfl W5.out rfl ?_ ?_ ?_ ?_ ?_
              · simp [Value.oneCell']
              · unfold maxLen; omega
              · omega
              · omega
              intro b' cap' w9 ho9 hg9 hat9
              have hne : (Value.slice ao n co).ownBlock ≠ some U := row_ne W5.out (Nat.lt_succ_self U)
              have hneN : (Value.slice ao n co).ownBlock ≠ some w.heap.size := row_ne W5.out (by omega)
              have O9 := Lib.hid (O5.out.grown hg9 hne)
              have HO9 := Lib.hid ho9
              have L9 := Lib.hid (below_appended L5.out W5.out hg9 (Nat.le_succ U) (Nat.le_of_lt hU5))
              have N9 := Is3.grown ⟨n0, n1, n2⟩ hg9 hneN
              refine hK.out _ _ ⟨N9.c0, N9.c1, N9.c2⟩ (fun hHeld => ?_)
              clear hK K ho9 hg9 hat9 hHeld
              have hHeld := And.intro N9.c0 (And.intro N9.c1 N9.c2)
              try simp only [Act.put, List.setIfInBounds_toArray, List.set_cons_zero, List.set_cons_succ]
              refine wpAnyH_take (i := 8) (v := ?v7) rfl (by kernel_rfl) (by kernel_rfl) (by kernel_rfl) (fun _ _ _ h => h) (Or.inl ⟨by rfl, ?hy7⟩) (by assumption) ?rest7
              case hy7 => (intro w hSw; (try dsimp only at hSw); go_simp; (first | done | with_reducible rfl))
              simp only [Act.put, List.setIfInBounds_toArray, List.set_cons_zero, List.set_cons_succ, List.getElem_toArray, List.getElem_cons_zero, List.getElem_cons_succ]
              refine wpAnyH_ready (rs := [9]) (by kernel_rfl) (by simp) ?_
              refine AllReadyH.cons rfl (fun K hK => ?_) AllReadyH.nil
              simp only [List.getElem_toArray, List.getElem_cons_zero, List.getElem_cons_succ]
              have u9 := O9.out.is3.c2
              have f9 := O9.out.f2
              go_simp
              have N10 : Is3 (w9.setCell ⟨U, 2, none⟩ (.slice (some ⟨b', 0, none⟩) (n + 1) cap')) w.heap.size _ _ _ := N9.grown (grown_set w9 U 2 _) (fun e => absurd (Option.some.inj e) (by omega))
              refine hK.out _ _ ⟨N10.c0, N10.c1, N10.c2⟩ (fun hHeld => ?_)
              clear hK K
              try simp only [Act.put, List.setIfInBounds_toArray, List.set_cons_zero, List.set_cons_succ, List.getElem_toArray, List.getElem_cons_zero, List.getElem_cons_succ]
              refine wpAnyH_done (by kernel_rfl) ?_ _
              have OZ := Lib.hid (O9.out.stored (.slice (some ⟨b', 0, none⟩) (n + 1) cap'))
              have WZ := Lib.hid (ownsRow_setCell_below HO9.out (a := ⟨U, 2, none⟩) (Nat.lt_succ_self U) (.slice (some ⟨b', 0, none⟩) (n + 1) cap'))
              have LZ := Lib.hid (below_set (x := .slice (some ⟨b', 0, none⟩) (n + 1) cap') (o := 2) L9.out (Nat.le_refl U))
              clear u9 f9 N9 N10
              generalize w9.setCell ⟨U, 2, none⟩ (.slice (some ⟨b', 0, none⟩) (n + 1) cap') = wz at *
              go_wp2_with fail
              go_roundw
              case rel => exact ⟨j + 1, _, by omega, by go_num, OZ.out, by rw [← Nat.add_assoc, HN.out, HT.out, List.map_append]; exact WZ.out, LZ.out⟩
              case measure => simp [intOf]; omega
        · have hj' : j = R := by omega
          subst hj'
          have OZ := Lib.hid hO
          have WZ := Lib.hid hown
          have LZ := Lib.hid hB
          clear hO hown hB
          go_wp2_with fail
          go_roundw
          case rel => exact ⟨k + 1, _, by omega, by go_num, OZ.out, by rw [Nat.succ_mul]; exact WZ.out, LZ.out⟩
          case measure => simp [intOf]; omega
    · have hk' : k = C := by omega
      subst hk'
      have hown2 := hown
      rw [List.take_of_length_le (by rw [turnL_length]; exact Nat.le_refl _)] at hown2
      obtain ⟨ao, co, rfl⟩ := own_value hown2
      have CR := C1.out
      have CB : Cell3 (w.heap.size + 1) wr := by
        obtain ⟨⟨x, c0⟩, ⟨y, c1⟩, ⟨z, c2⟩, f0, f1, f2⟩ := CR
        exact ⟨⟨x, (hB.cell (p := ⟨w.heap.size + 1, 0, none⟩) hN1w).trans c0⟩, ⟨y, (hB.cell (p := ⟨w.heap.size + 1, 1, none⟩) hN1w).trans c1⟩, ⟨z, (hB.cell (p := ⟨w.heap.size + 1, 2, none⟩) hN1w).trans c2⟩, (hB.frozen (p := ⟨w.heap.size + 1, 0, none⟩) hN1w).trans f0, (hB.frozen (p := ⟨w.heap.size + 1, 1, none⟩) hN1w).trans f1, (hB.frozen (p := ⟨w.heap.size + 1, 2, none⟩) hN1w).trans f2⟩
      have ST := Lib.hid (stored3 CB (.int .i64 k) (.int .i64 R) (.slice ao (k * R) co))
      obtain ⟨⟨x, c0⟩, ⟨y, c1⟩, ⟨z, c2⟩, f0, f1, f2⟩ := CB
      obtain ⟨⟨u0, u1, u2⟩, _⟩ := hO
      have WZ := Lib.hid hown2
      have LZ := Lib.hid (show Below w.heap.size w wr from B1.out.trans (hB.mono (by omega)))
      clear hown hB CR hown2
      go_wp2_with fail
      (try simp only [Exit.inBlock, Exit.then])
      have D0 := ST.out.1
      have D1 := ST.out.2.1
      have D2 := ST.out.2.2.1
      refine bodyPost_ret (v := .agg #[.int .i64 k, .int .i64 R, .slice ao (k * R) co]) (by simp [results, Try.results26, D0, D1, D2, go_sem]) rfl ?_
      refine ⟨_, rfl, .inr ?_, LZ.out.trans (ST.out.2.2.2.mono (by omega))⟩
      refine IntsAt.of_owns (turnL_length R k zs).symm (ownsRow_setCell_below (ownsRow_setCell_below (ownsRow_setCell_below WZ.out (a := ⟨w.heap.size + 1, 0, none⟩) ?_ _) (a := ⟨w.heap.size + 1, 1, none⟩) ?_ _) (a := ⟨w.heap.size + 1, 2, none⟩) ?_ _) <;> exact Nat.lt_succ_of_lt hN1w
end Go.Proofs.Ytinflmjombcolaa
