/- Layer 7: the walk of MatKeeps. -/
import Derived.Test.YtinflmjombcolaaMatV
import Derived.Deep.Cut
namespace Go.Proofs.Ytinflmjombcolaa
open Go.RowKit
set_option linter.unusedVariables false
theorem own_w {w : World} {base n : Nat} {e : TypeId} {v : Value} {zs : List Int} (hn : n = zs.length) (h : w.ownsRow base e 1 v n (zs.map (Value.int .i64))) : IntsW .i64 w.heap.size w v zs := .inr (IntsAt.of_owns hn h)
theorem row_keeps {w w' : World} {base size n g : Nat} {e : TypeId} {v : Value} {xs : List Value} {row : Option Nat} (h : w.ownsRow base e size v n xs) (hg : w.grownBy w' row) (hr : ∀ k, row = some k → k < base) : w'.ownsRow base e size v n xs := row_other h hg hr
set_option maxHeartbeats 2000000 in
theorem walk_keeps_big (r c : Int) (v u : Value) (zs xs : List Int) (w : World) (hv : IntsW .i64 w.heap.size w v zs) (hu : IntsAt .i64 w.heap.size w u xs) (hmx : xs.length ≤ maxLen) (h6 : 600 < zs.length ∨ zs.length ≤ 600 ∧ 600 < xs.length) :
    Calls Try.prog 7 #[.agg #[.int .i64 r, .int .i64 c, v], u] w fun e w' => e = .returned (.bool true) ∧ Below w.heap.size w w' := by
  obtain ⟨a, cap, rfl⟩ := hv.value
  obtain ⟨a', cap', rfl⟩ := ints_value hu
  have b0 := (Below.refl w.heap.size w).alloc (Nat.le_refl _) (.cells #[.int .i64 r, .int .i64 c, .slice a zs.length cap] 24)
  have m := Is3.new w (.int .i64 r) (.int .i64 c) (.slice a zs.length cap) 24
  obtain ⟨m0, m1, m2⟩ := m
  have HF := Lib.hid (fun W => few_any r c a zs.length cap W)
  unfold maxLen at hmx
  clear hv hu
  rcases h6 with h6 | ⟨h6, h7⟩
  · have g : decide (zs.length ≤ 600) = false := by simp; omega
    rw [g] at HF
    clear g
    go_enter Try.func7, Try.ntmps7
    go_wp2_with fail
    refine (HF.out _).mono ?_
    rintro e w1 ⟨rfl, b1⟩
    go_wp2_with fail
    refine (alive7_any _).mono ?_
    rintro e w2 ⟨rfl, b2⟩
    go_wp2_with fail
    go_ret
    exact ⟨rfl, below_step (below_step b0 b1) b2⟩
  · have g : decide (zs.length ≤ 600) = true := by simpa using h6
    rw [g] at HF
    clear g
    go_enter Try.func7, Try.ntmps7
    go_wp2_with fail
    refine (HF.out _).mono ?_
    rintro e w1 ⟨rfl, b1⟩
    go_wp2_with fail
    refine (alive7_any _).mono ?_
    rintro e w2 ⟨rfl, b2⟩
    go_wp2_with fail
    go_ret
    exact ⟨rfl, below_step (below_step b0 b1) b2⟩
set_option maxHeartbeats 8000000 in
theorem walk_keeps_yes (r c : Int) (v u : Value) (zs xs : List Int) (hz : ∀ z ∈ zs, Word z) (hx : ∀ z ∈ xs, Word z) (w : World) (hv : IntsW .i64 w.heap.size w v zs) (hu : IntsAt .i64 w.heap.size w u xs) (h6 : zs.length ≤ 600) (h7 : xs.length ≤ 600) (hr : rightB r c zs.length = true) :
    Calls Try.prog 7 #[.agg #[.int .i64 r, .int .i64 c, v], u] w fun e w' => e = .returned (.bool true) ∧ Below w.heap.size w w' := by
  obtain ⟨a, cap, rfl⟩ := hv.value
  obtain ⟨a', cap', rfl⟩ := ints_value hu
  have b0 := (Below.refl w.heap.size w).alloc (Nat.le_refl _) (.cells #[.int .i64 r, .int .i64 c, .slice a zs.length cap] 24)
  have m := Is3.new w (.int .i64 r) (.int .i64 c) (.slice a zs.length cap) 24
  have HF := Lib.hid (fun W => few_any r c a zs.length cap W)
  have g : decide (zs.length ≤ 600) = true := by simpa using h6
  rw [g] at HF
  have hm : zs.length ≤ 1048576 := by omega
  have HC := Lib.hid (fun (v : Value) (W : World) hv => refClone_any v zs (by omega) W.heap.size W hv)
  have HCX := Lib.hid (fun (v : Value) (W : World) hv => refClone_any v xs (by omega) W.heap.size W hv)
  have HOF := Lib.hid (fun (v : Value) W hv => of_mat_any r c v zs hm W hv)
  have HMU := Lib.hid (fun (v u : Value) W hv hu => mul_out r c v u zs xs 3 hz hx hm W hv hu)
  have HTU := Lib.hid (fun (v : Value) W hv => turn_own_any r c v zs hm W hv)
  have HRT := Lib.hid (fun W hv => refTurn_any r c (.slice a zs.length cap) zs hm W hv)
  have HRR := Lib.hid (fun W => refRight_any r c a zs.length cap W)
  unfold OfMat at HOF
  rw [hr] at HRR HOF
  have L2 := Lib.hid (turnZ_length r c zs hm)
  have HV0 := Lib.hid hv
  have V0 := Lib.hid (hv.later b0)
  have U0 := Lib.hid (hu.later b0)
  have B0 := Lib.hid b0
  have M0 := Lib.hid m
  generalize turnR r c zs.length = tr at *
  generalize turnC r c zs.length = tc at *
  generalize turnZ r c zs = tz at *
  generalize mulZ r c zs xs 3 = mz at *
  generalize mulB r c zs.length xs.length = mb at *
  clear hv hu g hz hx b0 m hr
  go_enter Try.func7, Try.ntmps7
  go_upto_region 1 with fail
  generalize w.alloc (.cells #[.int .i64 r, .int .i64 c, .slice a zs.length cap] 24) = W0 at *
  obtain ⟨m0, m1, m2⟩ := M0.out
  go_wp2_with fail
  refine (HF.out _).mono ?_
  rintro e w1 ⟨rfl, b1⟩
  have B1 := Lib.hid (below_step B0.out b1)
  have M1 := Lib.hid (M0.out.later b1)
  have V1 := Lib.hid (V0.out.later b1)
  have U1 := Lib.hid (U0.out.later b1)
  clear b1 m0 m1 m2
  obtain ⟨m0, m1, m2⟩ := M1.out
  go_wp2_with fail
  refine (HC.out _ _ V1.out).mono ?_
  rintro e w2 ⟨o, rfl, ho, b2⟩
  obtain ⟨ao, co, rfl⟩ := own_value ho
  have B2 := Lib.hid (below_step B1.out b2)
  have M2 := Lib.hid (M1.out.later b2)
  have V2 := Lib.hid (V1.out.later b2)
  have U2 := Lib.hid (U1.out.later b2)
  have O2 := Lib.hid ho
  have hN1 : w.heap.size < w1.heap.size := World.block_lt_of_cell? _ _ m0
  clear b2 m0 m1 m2 ho
  obtain ⟨m0, m1, m2⟩ := M2.out
  go_wp2_with fail
  refine (HCX.out _ _ (.inr U2.out)).mono ?_
  rintro e w3 ⟨o3, rfl, ho, b3⟩
  obtain ⟨ax, cx, rfl⟩ := own_value ho
  have B3 := Lib.hid (below_step B2.out b3)
  have M3 := Lib.hid (M2.out.later b3)
  have V3 := Lib.hid (V2.out.later b3)
  have U3 := Lib.hid (U2.out.later b3)
  have O3 := Lib.hid (own_below O2.out b3)
  have X3 := Lib.hid (IntsAt.of_owns rfl ho)
  clear b3 m0 m1 m2 ho O2
  obtain ⟨m0, m1, m2⟩ := M3.out
  go_wp2_with fail
  refine (HOF.out _ _ (own_w rfl O3.out)).mono ?_
  intro e w4 h4
  simp only [if_true] at h4
  obtain ⟨y, rfl, hy, b4⟩ := h4
  obtain ⟨ay, cy, rfl⟩ := own_value hy
  have YO := Lib.hid hy
  clear hy
  have b5 := (Below.refl w4.heap.size w4).alloc (Nat.le_refl _) (.cells #[.int .i64 r, .int .i64 c, .slice ay zs.length cy] 29)
  have Y5 := Lib.hid (Is3.new w4 (.int .i64 r) (.int .i64 c) (.slice ay zs.length cy) 29)
  have B5 := Lib.hid (below_step (below_step B3.out b4) b5)
  have M5 := Lib.hid ((M3.out.later b4).later b5)
  have V5 := Lib.hid ((V3.out.later b4).later b5)
  have U5 := Lib.hid ((U3.out.later b4).later b5)
  have O5 := Lib.hid (own_below (own_below O3.out b4) b5)
  have X5 := Lib.hid ((X3.out.later b4).later b5)
  have hOlt : ∀ k, (Value.slice ao zs.length co).ownBlock = some k → k < w3.heap.size := fun k e => (O3.out.lt k e).2
  have YO5 := Lib.hid (own_below YO.out b5)
  clear YO
  have hb4s := b4.size
  have hb5s := b5.size
  clear b4 b5 m0 m1 m2 O3
  go_upto_region 5 with fail
  generalize w4.alloc (.cells #[.int .i64 r, .int .i64 c, .slice ay zs.length cy] 29) = W5 at *
  generalize w4.heap.size = Y at *
  obtain ⟨m0, m1, m2⟩ := M5.out
  go_wp2_with fail
  refine (HMU.out _ _ _ (own_w rfl O5.out) X5.out).mono ?_
  rintro e w6 ⟨p, rfl, hp, b6⟩
  obtain ⟨ap, cp, rfl⟩ := ints_value hp
  have B6 := Lib.hid (below_step B5.out b6)
  have M6 := Lib.hid (M5.out.later b6)
  have V6 := Lib.hid (V5.out.later b6)
  have U6 := Lib.hid (U5.out.later b6)
  have O6 := Lib.hid (own_below O5.out b6)
  have X6 := Lib.hid (X5.out.later b6)
  have Y6 := Lib.hid (Y5.out.later b6)
  have YO6 := Lib.hid (own_below YO5.out b6)
  have hb6s := b6.size
  clear b6 m0 m1 m2 hp
  obtain ⟨m0, m1, m2⟩ := M6.out
  go_wp2_with fail
  refine (HTU.out _ _ (own_w rfl O6.out)).mono ?_
  rintro e w7 ⟨t, rfl, ht, b7⟩
  obtain ⟨at_, ct, rfl⟩ := own_value ht
  have b8 := (Below.refl w7.heap.size w7).alloc (Nat.le_refl _) (.cells #[.int .i64 tr, .int .i64 tc, .slice at_ tz.length ct] 29)
  have T8 := Lib.hid (Is3.new w7 (.int .i64 tr) (.int .i64 tc) (.slice at_ tz.length ct) 29)
  have B8 := Lib.hid (below_step (below_step B6.out b7) b8)
  have M8 := Lib.hid ((M6.out.later b7).later b8)
  have V8 := Lib.hid ((V6.out.later b7).later b8)
  have U8 := Lib.hid ((U6.out.later b7).later b8)
  have O8 := Lib.hid (own_below (own_below O6.out b7) b8)
  have X8 := Lib.hid ((X6.out.later b7).later b8)
  have Y8 := Lib.hid ((Y6.out.later b7).later b8)
  have TO8 := Lib.hid (own_below ht b8)
  have YO8 := Lib.hid (own_below (own_below YO6.out b7) b8)
  have hb7s := b7.size
  have hb8s := b8.size
  clear b7 b8 m0 m1 m2 ht
  go_upto_region 7 with fail
  generalize w7.alloc (.cells #[.int .i64 tr, .int .i64 tc, .slice at_ tz.length ct] 29) = W8 at *
  generalize w7.heap.size = T at *
  obtain ⟨m0, m1, m2⟩ := M8.out
  go_wp2_with fail
  refine (refSame_w _ _ zs zs (by omega) (by omega) _ (own_w rfl O8.out) V8.out).mono ?_
  rintro e w9 ⟨rfl, b9⟩
  rw [sameL_self]
  have B9 := Lib.hid (below_step B8.out b9)
  have M9 := Lib.hid (M8.out.later b9)
  have bb9 := Lib.hid b9
  clear b9 m0 m1 m2
  obtain ⟨m0, m1, m2⟩ := M9.out
  go_wp2_with fail
  refine (refSame_any _ _ xs xs (by omega) (by omega) _ (X8.out.later bb9.out) (U8.out.later bb9.out)).mono ?_
  rintro e w10 ⟨rfl, b10⟩
  rw [sameL_self]
  have B10 := Lib.hid (below_step B9.out b10)
  have M10 := Lib.hid (M9.out.later b10)
  have bb10 := Lib.hid (below_step bb9.out b10)
  clear b10 m0 m1 m2
  obtain ⟨m0, m1, m2⟩ := M10.out
  go_wp2_with fail
  refine (HRR.out _).mono ?_
  rintro e w11 ⟨rfl, b11⟩
  have bb11 := Lib.hid (below_step bb10.out b11)
  have B11 := Lib.hid (below_step B10.out b11)
  have M11 := Lib.hid (M10.out.later b11)
  have O11 := Lib.hid (own_below O8.out bb11.out)
  have Y11 := Lib.hid (Y8.out.later bb11.out)
  have T11 := Lib.hid (T8.out.later bb11.out)
  have TO11 := Lib.hid (own_below TO8.out bb11.out)
  have V11 := Lib.hid (V8.out.later bb11.out)
  have YO11 := Lib.hid (own_below YO8.out bb11.out)
  clear b11 m0 m1 m2
  obtain ⟨m0, m1, m2⟩ := M11.out
  have ho0 := hOlt
  go_wp2_with fail
  go_loopw [68] (fun i wr => ∃ (k : Nat) (os : List Int), k ≤ zs.length ∧ i = .int .i64 k ∧ os.length = zs.length ∧ wr.ownsRow w1.heap.size 2 1 (.slice ao zs.length co) zs.length (os.map (Value.int .i64)) ∧ w11.grownBy wr (Value.slice ao zs.length co).ownBlock) (fun i _ => zs.length - (intOf i).toNat)
  case atStart => exact ⟨0, zs, Nat.zero_le _, rfl, rfl, O11.out, grown_below (Below.refl _ _) _⟩
  case round =>
    obtain ⟨k, os, hk, rfl, hos, ho, hG⟩ := hrel
    by_cases hlt : k < zs.length
    · obtain ⟨g, c1, e0, hg1, hg2⟩ := own_some ho (by omega)
      cases e0
      have c0 := ho.cellAt k (by omega)
      have f0 := ho.frozenAt k
      obtain ⟨z, hzz⟩ : ∃ z, os[k]? = some z := ⟨_, List.getElem?_eq_getElem (by omega)⟩
      rw [List.getElem?_map, hzz, Option.map_some] at c0
      clear hzz
      have HOS := Lib.hid hos
      have HG := Lib.hid hG
      have HO := Lib.hid ho
      clear hos hG ho hOlt
      obtain ⟨z', hz'⟩ : ∃ z', IntKind.i64.wrap (z + 1) = z' := ⟨_, rfl⟩
      have hz2 : wrap64 (z + 1) = z' := by rw [← hz', IntWalk.i64_left]
      go_wp2_with fail
      have ST := HO.out.stored k (.int .i64 z')
      rw [List.set_map_eq] at ST
      go_roundw
      case rel => exact ⟨k + 1, _, by omega, by go_num, by rw [List.length_set]; exact HOS.out, ST.1, grown_trans HG.out ST.2⟩
      case measure => simp [intOf]; omega
    · have hk' : k = zs.length := by omega
      have hw11 : w3.heap.size ≤ w11.heap.size := by have := bb11.out.size; omega
      have GN : ∀ B, w3.heap.size ≤ B → (Value.slice ao zs.length co).ownBlock ≠ some B := fun B hB e => absurd (hOlt B e) (by omega)
      have NN : (Value.slice ao zs.length co).ownBlock ≠ some w.heap.size := fun e => absurd (O11.out.lt _ e).1 (by omega)
      have BW := Lib.hid (B11.out.grown hG B11.out.size (fun k e => by have := (O11.out.lt k e).1; omega))
      have M12 := Lib.hid (M11.out.grown hG NN)
      have Y12 := Lib.hid (Y11.out.grown hG (GN _ (by omega)))
      have T12 := Lib.hid (T11.out.grown hG (GN _ (by omega)))
      have TO12 := Lib.hid (own_w rfl (row_other TO11.out hG (fun k e => by have := hOlt k e; omega)))
      have V12 := Lib.hid ((HV0.out.below BW.out).grow BW.out.size)

      have YO12 := Lib.hid (own_w rfl (row_other YO11.out hG (fun k e => by have := hOlt k e; omega)))
      clear hos ho hG hOlt ho0 GN NN m0 m1 m2 hlt
      have hng : ¬ ((k : Int) < (zs.length : Int)) := by omega
      have hng2 : decide (k < zs.length) = false := by rw [hk']; simp
      clear hk'
      go_wp2_with fail
      refine wp_region_held_drew (S := fun w' => w'.cell? ⟨w.heap.size, 0, none⟩ = some (.int .i64 r) ∧ w'.cell? ⟨w.heap.size, 1, none⟩ = some (.int .i64 c) ∧ w'.cell? ⟨w.heap.size, 2, none⟩ = some (.slice a zs.length cap) ∧ w'.cell? ⟨Y, 0, none⟩ = some (.int .i64 r) ∧ w'.cell? ⟨Y, 1, none⟩ = some (.int .i64 c) ∧ w'.cell? ⟨Y, 2, none⟩ = some (.slice ay zs.length cy) ∧ w'.cell? ⟨T, 0, none⟩ = some (.int .i64 tr) ∧ w'.cell? ⟨T, 1, none⟩ = some (.int .i64 tc) ∧ w'.cell? ⟨T, 2, none⟩ = some (.slice at_ tz.length ct) ∧ Below wr.heap.size wr w') (by kernel_rfl) ?_ (fun hHeld => ?_)
      · exact ⟨M12.out.c0, M12.out.c1, M12.out.c2, Y12.out.c0, Y12.out.c1, Y12.out.c2, T12.out.c0, T12.out.c1, T12.out.c2, (Below.refl _ _).drew⟩
      refine wpAnyH_ready (rs := [0]) (by kernel_rfl) (by simp) ?_
      refine AllReadyH.cons rfl (fun K hK => ?_) AllReadyH.nil
      simp only [List.getElem_toArray, List.getElem_cons_zero]
      go_simp
      go_at_call 9
      obtain ⟨h_0, h_1, h_2, h_3, h_4, h_5, h_6, h_7, h_8, h_B⟩ := hHeld
      refine (alive7_any _).mono ?_
      rintro e w_k1 ⟨rfl, k1⟩
      have hc1 := Lib.hid (below_step h_B k1)
      go_wp2_with fail
      refine hK.out _ _ ⟨cell_step k1 h_0, cell_step k1 h_1, cell_step k1 h_2, cell_step k1 h_3, cell_step k1 h_4, cell_step k1 h_5, cell_step k1 h_6, cell_step k1 h_7, cell_step k1 h_8, below_step h_B k1⟩ (fun hHeld => ?_)
      clear hK K h_0 h_1 h_2 h_3 h_4 h_5 h_6 h_7 h_8 h_B
      try simp only [Act.put, List.setIfInBounds_toArray, List.set_cons_zero, List.set_cons_succ, List.getElem_toArray, List.getElem_cons_zero, List.getElem_cons_succ]
      refine wpAnyH_take (i := 1) (v := ?v1) rfl (by kernel_rfl) (by kernel_rfl) (by kernel_rfl) (fun _ _ _ h => h) (Or.inl ⟨by rfl, ?hy1⟩) (by assumption) ?rest1
      case hy1 => (intro w hSw; (try dsimp only at hSw); go_simp; (first | done | with_reducible rfl))
      simp only [Act.put, List.setIfInBounds_toArray, List.set_cons_zero, List.set_cons_succ, List.getElem_toArray, List.getElem_cons_zero, List.getElem_cons_succ]
      refine wpAnyH_take (i := 2) (v := ?v2) rfl (by kernel_rfl) (by kernel_rfl) (by kernel_rfl) (fun _ _ _ h => h) (Or.inl ⟨by rfl, ?hy2⟩) (by assumption) ?rest2
      case hy2 => (intro w hSw; (try dsimp only at hSw); go_simp; (first | done | with_reducible rfl))
      simp only [Act.put, List.setIfInBounds_toArray, List.set_cons_zero, List.set_cons_succ, List.getElem_toArray, List.getElem_cons_zero, List.getElem_cons_succ]
      refine wpAnyH_take (i := 3) (v := ?v3) rfl (by kernel_rfl) (by kernel_rfl) (by kernel_rfl) (fun _ _ _ h => h) (Or.inl ⟨by rfl, ?hy3⟩) (by assumption) ?rest3
      case hy3 => (intro w hSw; (try dsimp only at hSw); go_simp; (first | done | with_reducible rfl))
      simp only [Act.put, List.setIfInBounds_toArray, List.set_cons_zero, List.set_cons_succ, List.getElem_toArray, List.getElem_cons_zero, List.getElem_cons_succ]
      refine wpAnyH_take (i := 4) (v := ?v4) rfl (by kernel_rfl) (by kernel_rfl) (by kernel_rfl) (fun _ _ _ h => h) (Or.inl ⟨by rfl, ?hy4⟩) (by assumption) ?rest4
      case hy4 => (intro w hSw; (try dsimp only at hSw); go_simp; (first | done | with_reducible rfl))
      simp only [Act.put, List.setIfInBounds_toArray, List.set_cons_zero, List.set_cons_succ, List.getElem_toArray, List.getElem_cons_zero, List.getElem_cons_succ]
      refine wpAnyH_take (i := 5) (v := ?v5) rfl (by kernel_rfl) (by kernel_rfl) (by kernel_rfl) (fun _ _ _ h => h) (Or.inl ⟨by rfl, ?hy5⟩) (by assumption) ?rest5
      case hy5 => (intro w hSw; (try dsimp only at hSw); go_simp; (first | done | with_reducible rfl))
      simp only [Act.put, List.setIfInBounds_toArray, List.set_cons_zero, List.set_cons_succ, List.getElem_toArray, List.getElem_cons_zero, List.getElem_cons_succ]
      refine wpAnyH_take (i := 6) (v := ?v6) rfl (by kernel_rfl) (by kernel_rfl) (by kernel_rfl) (fun _ _ _ h => h) (Or.inl ⟨by rfl, ?hy6⟩) (by assumption) ?rest6
      case hy6 => (intro w hSw; (try dsimp only at hSw); go_simp; (first | done | with_reducible rfl))
      simp only [Act.put, List.setIfInBounds_toArray, List.set_cons_zero, List.set_cons_succ, List.getElem_toArray, List.getElem_cons_zero, List.getElem_cons_succ]
      refine wpAnyH_take (i := 7) (v := ?v7) rfl (by kernel_rfl) (by kernel_rfl) (by kernel_rfl) (fun _ _ _ h => h) (Or.inl ⟨by rfl, ?hy7⟩) (by assumption) ?rest7
      case hy7 => (intro w hSw; (try dsimp only at hSw); go_simp; (first | done | with_reducible rfl))
      simp only [Act.put, List.setIfInBounds_toArray, List.set_cons_zero, List.set_cons_succ, List.getElem_toArray, List.getElem_cons_zero, List.getElem_cons_succ]
      refine wpAnyH_take (i := 8) (v := ?v8) rfl (by kernel_rfl) (by kernel_rfl) (by kernel_rfl) (fun _ _ _ h => h) (Or.inl ⟨by rfl, ?hy8⟩) (by assumption) ?rest8
      case hy8 => (intro w hSw; (try dsimp only at hSw); go_simp; (first | done | with_reducible rfl))
      simp only [Act.put, List.setIfInBounds_toArray, List.set_cons_zero, List.set_cons_succ, List.getElem_toArray, List.getElem_cons_zero, List.getElem_cons_succ]
      refine wpAnyH_ready (rs := [9]) (by kernel_rfl) (by simp) ?_
      refine AllReadyH.cons rfl (fun K hK => ?_) AllReadyH.nil
      simp only [List.getElem_toArray, List.getElem_cons_zero, List.getElem_cons_succ]
      go_simp
      go_at_call 24
      obtain ⟨h_0, h_1, h_2, h_3, h_4, h_5, h_6, h_7, h_8, h_B⟩ := hHeld
      refine (refSame_w _ _ zs zs (by omega) (by omega) _ (YO12.out.later h_B) (V12.out.later h_B)).mono ?_
      rintro e w_k2 ⟨rfl, k2⟩
      rw [sameL_self]
      have hc2 := Lib.hid (below_step h_B k2)
      go_wp2_with fail
      refine hK.out _ _ ⟨cell_step k2 h_0, cell_step k2 h_1, cell_step k2 h_2, cell_step k2 h_3, cell_step k2 h_4, cell_step k2 h_5, cell_step k2 h_6, cell_step k2 h_7, cell_step k2 h_8, below_step h_B k2⟩ (fun hHeld => ?_)
      clear hK K h_0 h_1 h_2 h_3 h_4 h_5 h_6 h_7 h_8 h_B
      try simp only [Act.put, List.setIfInBounds_toArray, List.set_cons_zero, List.set_cons_succ, List.getElem_toArray, List.getElem_cons_zero, List.getElem_cons_succ]
      refine wpAnyH_take (i := 10) (v := ?v9) rfl (by kernel_rfl) (by kernel_rfl) (by kernel_rfl) (fun _ _ _ h => h) (Or.inl ⟨by rfl, ?hy9⟩) (by assumption) ?rest9
      case hy9 => (intro w hSw; (try dsimp only at hSw); go_simp; (first | done | with_reducible rfl))
      simp only [Act.put, List.setIfInBounds_toArray, List.set_cons_zero, List.set_cons_succ, List.getElem_toArray, List.getElem_cons_zero, List.getElem_cons_succ]
      refine wpAnyH_take (i := 11) (v := ?v10) rfl (by kernel_rfl) (by kernel_rfl) (by kernel_rfl) (fun _ _ _ h => h) (Or.inl ⟨by rfl, ?hy10⟩) (by assumption) ?rest10
      case hy10 => (intro w hSw; (try dsimp only at hSw); go_simp; (first | done | with_reducible rfl))
      simp only [Act.put, List.setIfInBounds_toArray, List.set_cons_zero, List.set_cons_succ, List.getElem_toArray, List.getElem_cons_zero, List.getElem_cons_succ]
      refine wpAnyH_take (i := 12) (v := ?v11) rfl (by kernel_rfl) (by kernel_rfl) (by kernel_rfl) (fun _ _ _ h => h) (Or.inl ⟨by rfl, ?hy11⟩) (by assumption) ?rest11
      case hy11 => (intro w hSw; (try dsimp only at hSw); go_simp; (first | done | with_reducible rfl))
      simp only [Act.put, List.setIfInBounds_toArray, List.set_cons_zero, List.set_cons_succ, List.getElem_toArray, List.getElem_cons_zero, List.getElem_cons_succ]
      refine wpAnyH_take (i := 13) (v := ?v12) rfl (by kernel_rfl) (by kernel_rfl) (by kernel_rfl) (fun _ _ _ h => h) (Or.inl ⟨by rfl, ?hy12⟩) (by assumption) ?rest12
      case hy12 => (intro w hSw; (try dsimp only at hSw); go_simp; (first | done | with_reducible rfl))
      simp only [Act.put, List.setIfInBounds_toArray, List.set_cons_zero, List.set_cons_succ, List.getElem_toArray, List.getElem_cons_zero, List.getElem_cons_succ]
      refine wpAnyH_take (i := 15) (v := ?v13) rfl (by kernel_rfl) (by kernel_rfl) (by kernel_rfl) (fun _ _ _ h => h) (Or.inl ⟨by rfl, ?hy13⟩) (by assumption) ?rest13
      case hy13 => (intro w hSw; (try dsimp only at hSw); go_simp; (first | done | with_reducible rfl))
      simp only [Act.put, List.setIfInBounds_toArray, List.set_cons_zero, List.set_cons_succ, List.getElem_toArray, List.getElem_cons_zero, List.getElem_cons_succ]
      refine wpAnyH_ready (rs := [14]) (by kernel_rfl) (by simp) ?_
      refine AllReadyH.cons rfl (fun K hK => ?_) AllReadyH.nil
      simp only [List.getElem_toArray, List.getElem_cons_zero, List.getElem_cons_succ]
      go_simp
      go_at_call 15
      obtain ⟨h_0, h_1, h_2, h_3, h_4, h_5, h_6, h_7, h_8, h_B⟩ := hHeld
      refine (back_any tr tc (.slice at_ tz.length ct) ⟨_, _, _, rfl⟩ _).mono ?_
      rintro e w_k3 ⟨rfl, k3⟩
      have hc3 := Lib.hid (below_step h_B k3)
      go_wp2_with fail
      refine hK.out _ _ ⟨cell_step k3 h_0, cell_step k3 h_1, cell_step k3 h_2, cell_step k3 h_3, cell_step k3 h_4, cell_step k3 h_5, cell_step k3 h_6, cell_step k3 h_7, cell_step k3 h_8, below_step h_B k3⟩ (fun hHeld => ?_)
      clear hK K h_0 h_1 h_2 h_3 h_4 h_5 h_6 h_7 h_8 h_B
      try simp only [Act.put, List.setIfInBounds_toArray, List.set_cons_zero, List.set_cons_succ, List.getElem_toArray, List.getElem_cons_zero, List.getElem_cons_succ]
      refine wpAnyH_ready (rs := [16]) (by kernel_rfl) (by simp) ?_
      refine AllReadyH.cons rfl (fun K hK => ?_) AllReadyH.nil
      simp only [List.getElem_toArray, List.getElem_cons_zero, List.getElem_cons_succ]
      go_simp
      go_at_call 26
      obtain ⟨h_0, h_1, h_2, h_3, h_4, h_5, h_6, h_7, h_8, h_B⟩ := hHeld
      refine (HRT.out _ (V12.out.later h_B)).mono ?_
      rintro e w_k4 ⟨t2, rfl, ht2, k4⟩
      obtain ⟨at2, ct2, rfl⟩ := ht2.value
      have Z8 := Lib.hid ht2
      have X8 := Lib.hid (TO12.out.later (below_step h_B k4))
      clear ht2
      go_wp2_with fail
      refine hK.out _ _ ⟨cell_step k4 h_0, cell_step k4 h_1, cell_step k4 h_2, cell_step k4 h_3, cell_step k4 h_4, cell_step k4 h_5, cell_step k4 h_6, cell_step k4 h_7, cell_step k4 h_8, below_step h_B k4⟩ (fun hHeld => ?_)
      clear hK K h_0 h_1 h_2 h_3 h_4 h_5 h_6 h_7 h_8 h_B
      try simp only [Act.put, List.setIfInBounds_toArray, List.set_cons_zero, List.set_cons_succ, List.getElem_toArray, List.getElem_cons_zero, List.getElem_cons_succ]
      refine wpAnyH_ready (rs := [17]) (by kernel_rfl) (by simp) ?_
      refine AllReadyH.cons rfl (fun K hK => ?_) AllReadyH.nil
      simp only [List.getElem_toArray, List.getElem_cons_zero, List.getElem_cons_succ]
      go_simp
      go_at_call 14
      obtain ⟨h_0, h_1, h_2, h_3, h_4, h_5, h_6, h_7, h_8, h_B⟩ := hHeld
      refine (same_same tr tc _ _ tz L2.out _ X8.out Z8.out).mono ?_
      rintro e w_k5 ⟨rfl, k5⟩
      have hc5 := Lib.hid (below_step h_B k5)
      go_wp2_with fail
      refine hK.out _ _ ⟨cell_step k5 h_0, cell_step k5 h_1, cell_step k5 h_2, cell_step k5 h_3, cell_step k5 h_4, cell_step k5 h_5, cell_step k5 h_6, cell_step k5 h_7, cell_step k5 h_8, below_step h_B k5⟩ (fun hHeld => ?_)
      clear hK K h_0 h_1 h_2 h_3 h_4 h_5 h_6 h_7 h_8 h_B
      try simp only [Act.put, List.setIfInBounds_toArray, List.set_cons_zero, List.set_cons_succ, List.getElem_toArray, List.getElem_cons_zero, List.getElem_cons_succ]
      refine wpAnyH_take (i := 18) (v := ?v14) rfl (by kernel_rfl) (by kernel_rfl) (by kernel_rfl) (fun _ _ _ h => h) (Or.inl ⟨by rfl, ?hy14⟩) (by assumption) ?rest14
      case hy14 => (intro w hSw; (try dsimp only at hSw); go_simp; (first | done | with_reducible rfl))
      simp only [Act.put, List.setIfInBounds_toArray, List.set_cons_zero, List.set_cons_succ, List.getElem_toArray, List.getElem_cons_zero, List.getElem_cons_succ]
      refine wpAnyH_take (i := 19) (v := ?v15) rfl (by kernel_rfl) (by kernel_rfl) (by kernel_rfl) (fun _ _ _ h => h) (Or.inl ⟨by rfl, ?hy15⟩) (by assumption) ?rest15
      case hy15 => (intro w hSw; (try dsimp only at hSw); go_simp; (first | done | with_reducible rfl))
      simp only [Act.put, List.setIfInBounds_toArray, List.set_cons_zero, List.set_cons_succ, List.getElem_toArray, List.getElem_cons_zero, List.getElem_cons_succ]
      refine wpAnyH_done (by kernel_rfl) ?_ _
      go_wp2_with fail
      go_ret
      exact ⟨rfl, below_step BW.out hc5.out⟩

set_option maxHeartbeats 8000000 in
theorem walk_keeps_no (r c : Int) (v u : Value) (zs xs : List Int) (hz : ∀ z ∈ zs, Word z) (hx : ∀ z ∈ xs, Word z) (w : World) (hv : IntsW .i64 w.heap.size w v zs) (hu : IntsAt .i64 w.heap.size w u xs) (h6 : zs.length ≤ 600) (h7 : xs.length ≤ 600) (hr : rightB r c zs.length = false) :
    Calls Try.prog 7 #[.agg #[.int .i64 r, .int .i64 c, v], u] w fun e w' => e = .returned (.bool true) ∧ Below w.heap.size w w' := by
  obtain ⟨a, cap, rfl⟩ := hv.value
  obtain ⟨a', cap', rfl⟩ := ints_value hu
  have b0 := (Below.refl w.heap.size w).alloc (Nat.le_refl _) (.cells #[.int .i64 r, .int .i64 c, .slice a zs.length cap] 24)
  have m := Is3.new w (.int .i64 r) (.int .i64 c) (.slice a zs.length cap) 24
  have HF := Lib.hid (fun W => few_any r c a zs.length cap W)
  have g : decide (zs.length ≤ 600) = true := by simpa using h6
  rw [g] at HF
  have hm : zs.length ≤ 1048576 := by omega
  have HC := Lib.hid (fun (v : Value) (W : World) hv => refClone_any v zs (by omega) W.heap.size W hv)
  have HCX := Lib.hid (fun (v : Value) (W : World) hv => refClone_any v xs (by omega) W.heap.size W hv)
  have HOF := Lib.hid (fun (v : Value) W hv => of_mat_any r c v zs hm W hv)
  have HMU := Lib.hid (fun (v u : Value) W hv hu => mul_out r c v u zs xs 3 hz hx hm W hv hu)
  have HTU := Lib.hid (fun (v : Value) W hv => turn_own_any r c v zs hm W hv)
  have HRT := Lib.hid (fun W hv => refTurn_any r c (.slice a zs.length cap) zs hm W hv)
  have HRR := Lib.hid (fun W => refRight_any r c a zs.length cap W)
  unfold OfMat at HOF
  rw [hr] at HRR HOF
  have L2 := Lib.hid (turnZ_length r c zs hm)
  have HV0 := Lib.hid hv
  have V0 := Lib.hid (hv.later b0)
  have U0 := Lib.hid (hu.later b0)
  have B0 := Lib.hid b0
  have M0 := Lib.hid m
  generalize turnR r c zs.length = tr at *
  generalize turnC r c zs.length = tc at *
  generalize turnZ r c zs = tz at *
  generalize mulZ r c zs xs 3 = mz at *
  generalize mulB r c zs.length xs.length = mb at *
  clear hv hu g hz hx b0 m hr
  go_enter Try.func7, Try.ntmps7
  go_upto_region 1 with fail
  generalize w.alloc (.cells #[.int .i64 r, .int .i64 c, .slice a zs.length cap] 24) = W0 at *
  obtain ⟨m0, m1, m2⟩ := M0.out
  go_wp2_with fail
  refine (HF.out _).mono ?_
  rintro e w1 ⟨rfl, b1⟩
  have B1 := Lib.hid (below_step B0.out b1)
  have M1 := Lib.hid (M0.out.later b1)
  have V1 := Lib.hid (V0.out.later b1)
  have U1 := Lib.hid (U0.out.later b1)
  clear b1 m0 m1 m2
  obtain ⟨m0, m1, m2⟩ := M1.out
  go_wp2_with fail
  refine (HC.out _ _ V1.out).mono ?_
  rintro e w2 ⟨o, rfl, ho, b2⟩
  obtain ⟨ao, co, rfl⟩ := own_value ho
  have B2 := Lib.hid (below_step B1.out b2)
  have M2 := Lib.hid (M1.out.later b2)
  have V2 := Lib.hid (V1.out.later b2)
  have U2 := Lib.hid (U1.out.later b2)
  have O2 := Lib.hid ho
  have hN1 : w.heap.size < w1.heap.size := World.block_lt_of_cell? _ _ m0
  clear b2 m0 m1 m2 ho
  obtain ⟨m0, m1, m2⟩ := M2.out
  go_wp2_with fail
  refine (HCX.out _ _ (.inr U2.out)).mono ?_
  rintro e w3 ⟨o3, rfl, ho, b3⟩
  obtain ⟨ax, cx, rfl⟩ := own_value ho
  have B3 := Lib.hid (below_step B2.out b3)
  have M3 := Lib.hid (M2.out.later b3)
  have V3 := Lib.hid (V2.out.later b3)
  have U3 := Lib.hid (U2.out.later b3)
  have O3 := Lib.hid (own_below O2.out b3)
  have X3 := Lib.hid (IntsAt.of_owns rfl ho)
  clear b3 m0 m1 m2 ho O2
  obtain ⟨m0, m1, m2⟩ := M3.out
  go_wp2_with fail
  refine (HOF.out _ _ (own_w rfl O3.out)).mono ?_
  intro e w4 h4
  simp only [Bool.false_eq_true, if_false] at h4
  obtain ⟨rfl, b4⟩ := h4
  have b5 := (Below.refl w4.heap.size w4).alloc (Nat.le_refl _) (.cells #[.int .i64 0, .int .i64 0, .slice none 0 0] 29)
  have Y5 := Lib.hid (Is3.new w4 (.int .i64 0) (.int .i64 0) (.slice none 0 0) 29)
  have B5 := Lib.hid (below_step (below_step B3.out b4) b5)
  have M5 := Lib.hid ((M3.out.later b4).later b5)
  have V5 := Lib.hid ((V3.out.later b4).later b5)
  have U5 := Lib.hid ((U3.out.later b4).later b5)
  have O5 := Lib.hid (own_below (own_below O3.out b4) b5)
  have X5 := Lib.hid ((X3.out.later b4).later b5)
  have hOlt : ∀ k, (Value.slice ao zs.length co).ownBlock = some k → k < w3.heap.size := fun k e => (O3.out.lt k e).2
  have hb4s := b4.size
  have hb5s := b5.size
  clear b4 b5 m0 m1 m2 O3
  go_upto_region 5 with fail
  generalize w4.alloc (.cells #[.int .i64 0, .int .i64 0, .slice none 0 0] 29) = W5 at *
  generalize w4.heap.size = Y at *
  obtain ⟨m0, m1, m2⟩ := M5.out
  go_wp2_with fail
  refine (HMU.out _ _ _ (own_w rfl O5.out) X5.out).mono ?_
  rintro e w6 ⟨p, rfl, hp, b6⟩
  obtain ⟨ap, cp, rfl⟩ := ints_value hp
  have B6 := Lib.hid (below_step B5.out b6)
  have M6 := Lib.hid (M5.out.later b6)
  have V6 := Lib.hid (V5.out.later b6)
  have U6 := Lib.hid (U5.out.later b6)
  have O6 := Lib.hid (own_below O5.out b6)
  have X6 := Lib.hid (X5.out.later b6)
  have Y6 := Lib.hid (Y5.out.later b6)
  have hb6s := b6.size
  clear b6 m0 m1 m2 hp
  obtain ⟨m0, m1, m2⟩ := M6.out
  go_wp2_with fail
  refine (HTU.out _ _ (own_w rfl O6.out)).mono ?_
  rintro e w7 ⟨t, rfl, ht, b7⟩
  obtain ⟨at_, ct, rfl⟩ := own_value ht
  have b8 := (Below.refl w7.heap.size w7).alloc (Nat.le_refl _) (.cells #[.int .i64 tr, .int .i64 tc, .slice at_ tz.length ct] 29)
  have T8 := Lib.hid (Is3.new w7 (.int .i64 tr) (.int .i64 tc) (.slice at_ tz.length ct) 29)
  have B8 := Lib.hid (below_step (below_step B6.out b7) b8)
  have M8 := Lib.hid ((M6.out.later b7).later b8)
  have V8 := Lib.hid ((V6.out.later b7).later b8)
  have U8 := Lib.hid ((U6.out.later b7).later b8)
  have O8 := Lib.hid (own_below (own_below O6.out b7) b8)
  have X8 := Lib.hid ((X6.out.later b7).later b8)
  have Y8 := Lib.hid ((Y6.out.later b7).later b8)
  have TO8 := Lib.hid (own_below ht b8)
  have hb7s := b7.size
  have hb8s := b8.size
  clear b7 b8 m0 m1 m2 ht
  go_upto_region 7 with fail
  generalize w7.alloc (.cells #[.int .i64 tr, .int .i64 tc, .slice at_ tz.length ct] 29) = W8 at *
  generalize w7.heap.size = T at *
  obtain ⟨m0, m1, m2⟩ := M8.out
  go_wp2_with fail
  refine (refSame_w _ _ zs zs (by omega) (by omega) _ (own_w rfl O8.out) V8.out).mono ?_
  rintro e w9 ⟨rfl, b9⟩
  rw [sameL_self]
  have B9 := Lib.hid (below_step B8.out b9)
  have M9 := Lib.hid (M8.out.later b9)
  have bb9 := Lib.hid b9
  clear b9 m0 m1 m2
  obtain ⟨m0, m1, m2⟩ := M9.out
  go_wp2_with fail
  refine (refSame_any _ _ xs xs (by omega) (by omega) _ (X8.out.later bb9.out) (U8.out.later bb9.out)).mono ?_
  rintro e w10 ⟨rfl, b10⟩
  rw [sameL_self]
  have B10 := Lib.hid (below_step B9.out b10)
  have M10 := Lib.hid (M9.out.later b10)
  have bb10 := Lib.hid (below_step bb9.out b10)
  clear b10 m0 m1 m2
  obtain ⟨m0, m1, m2⟩ := M10.out
  go_wp2_with fail
  refine (HRR.out _).mono ?_
  rintro e w11 ⟨rfl, b11⟩
  have bb11 := Lib.hid (below_step bb10.out b11)
  have B11 := Lib.hid (below_step B10.out b11)
  have M11 := Lib.hid (M10.out.later b11)
  have O11 := Lib.hid (own_below O8.out bb11.out)
  have Y11 := Lib.hid (Y8.out.later bb11.out)
  have T11 := Lib.hid (T8.out.later bb11.out)
  have TO11 := Lib.hid (own_below TO8.out bb11.out)
  have V11 := Lib.hid (V8.out.later bb11.out)
  clear b11 m0 m1 m2
  obtain ⟨m0, m1, m2⟩ := M11.out
  have ho0 := hOlt
  go_wp2_with fail
  go_loopw [68] (fun i wr => ∃ (k : Nat) (os : List Int), k ≤ zs.length ∧ i = .int .i64 k ∧ os.length = zs.length ∧ wr.ownsRow w1.heap.size 2 1 (.slice ao zs.length co) zs.length (os.map (Value.int .i64)) ∧ w11.grownBy wr (Value.slice ao zs.length co).ownBlock) (fun i _ => zs.length - (intOf i).toNat)
  case atStart => exact ⟨0, zs, Nat.zero_le _, rfl, rfl, O11.out, grown_below (Below.refl _ _) _⟩
  case round =>
    obtain ⟨k, os, hk, rfl, hos, ho, hG⟩ := hrel
    by_cases hlt : k < zs.length
    · obtain ⟨g, c1, e0, hg1, hg2⟩ := own_some ho (by omega)
      cases e0
      have c0 := ho.cellAt k (by omega)
      have f0 := ho.frozenAt k
      obtain ⟨z, hzz⟩ : ∃ z, os[k]? = some z := ⟨_, List.getElem?_eq_getElem (by omega)⟩
      rw [List.getElem?_map, hzz, Option.map_some] at c0
      clear hzz
      have HOS := Lib.hid hos
      have HG := Lib.hid hG
      have HO := Lib.hid ho
      clear hos hG ho hOlt
      obtain ⟨z', hz'⟩ : ∃ z', IntKind.i64.wrap (z + 1) = z' := ⟨_, rfl⟩
      have hz2 : wrap64 (z + 1) = z' := by rw [← hz', IntWalk.i64_left]
      go_wp2_with fail
      have ST := HO.out.stored k (.int .i64 z')
      rw [List.set_map_eq] at ST
      go_roundw
      case rel => exact ⟨k + 1, _, by omega, by go_num, by rw [List.length_set]; exact HOS.out, ST.1, grown_trans HG.out ST.2⟩
      case measure => simp [intOf]; omega
    · have hk' : k = zs.length := by omega
      have hw11 : w3.heap.size ≤ w11.heap.size := by have := bb11.out.size; omega
      have GN : ∀ B, w3.heap.size ≤ B → (Value.slice ao zs.length co).ownBlock ≠ some B := fun B hB e => absurd (hOlt B e) (by omega)
      have NN : (Value.slice ao zs.length co).ownBlock ≠ some w.heap.size := fun e => absurd (O11.out.lt _ e).1 (by omega)
      have BW := Lib.hid (B11.out.grown hG B11.out.size (fun k e => by have := (O11.out.lt k e).1; omega))
      have M12 := Lib.hid (M11.out.grown hG NN)
      have Y12 := Lib.hid (Y11.out.grown hG (GN _ (by omega)))
      have T12 := Lib.hid (T11.out.grown hG (GN _ (by omega)))
      have TO12 := Lib.hid (own_w rfl (row_other TO11.out hG (fun k e => by have := hOlt k e; omega)))
      have V12 := Lib.hid ((HV0.out.below BW.out).grow BW.out.size)

      clear hos ho hG hOlt ho0 GN NN m0 m1 m2 hlt
      have hng : ¬ ((k : Int) < (zs.length : Int)) := by omega
      have hng2 : decide (k < zs.length) = false := by rw [hk']; simp
      clear hk'
      go_wp2_with fail
      refine wp_region_held_drew (S := fun w' => w'.cell? ⟨w.heap.size, 0, none⟩ = some (.int .i64 r) ∧ w'.cell? ⟨w.heap.size, 1, none⟩ = some (.int .i64 c) ∧ w'.cell? ⟨w.heap.size, 2, none⟩ = some (.slice a zs.length cap) ∧ w'.cell? ⟨Y, 0, none⟩ = some (.int .i64 0) ∧ w'.cell? ⟨Y, 1, none⟩ = some (.int .i64 0) ∧ w'.cell? ⟨Y, 2, none⟩ = some (.slice none 0 0) ∧ w'.cell? ⟨T, 0, none⟩ = some (.int .i64 tr) ∧ w'.cell? ⟨T, 1, none⟩ = some (.int .i64 tc) ∧ w'.cell? ⟨T, 2, none⟩ = some (.slice at_ tz.length ct) ∧ Below wr.heap.size wr w') (by kernel_rfl) ?_ (fun hHeld => ?_)
      · exact ⟨M12.out.c0, M12.out.c1, M12.out.c2, Y12.out.c0, Y12.out.c1, Y12.out.c2, T12.out.c0, T12.out.c1, T12.out.c2, (Below.refl _ _).drew⟩
      refine wpAnyH_ready (rs := [0]) (by kernel_rfl) (by simp) ?_
      refine AllReadyH.cons rfl (fun K hK => ?_) AllReadyH.nil
      simp only [List.getElem_toArray, List.getElem_cons_zero]
      go_simp
      go_at_call 9
      obtain ⟨h_0, h_1, h_2, h_3, h_4, h_5, h_6, h_7, h_8, h_B⟩ := hHeld
      refine (alive7_any _).mono ?_
      rintro e w_k1 ⟨rfl, k1⟩
      have hc1 := Lib.hid (below_step h_B k1)
      go_wp2_with fail
      refine hK.out _ _ ⟨cell_step k1 h_0, cell_step k1 h_1, cell_step k1 h_2, cell_step k1 h_3, cell_step k1 h_4, cell_step k1 h_5, cell_step k1 h_6, cell_step k1 h_7, cell_step k1 h_8, below_step h_B k1⟩ (fun hHeld => ?_)
      clear hK K h_0 h_1 h_2 h_3 h_4 h_5 h_6 h_7 h_8 h_B
      try simp only [Act.put, List.setIfInBounds_toArray, List.set_cons_zero, List.set_cons_succ, List.getElem_toArray, List.getElem_cons_zero, List.getElem_cons_succ]
      refine wpAnyH_take (i := 1) (v := ?v16) rfl (by kernel_rfl) (by kernel_rfl) (by kernel_rfl) (fun _ _ _ h => h) (Or.inl ⟨by rfl, ?hy16⟩) (by assumption) ?rest16
      case hy16 => (intro w hSw; (try dsimp only at hSw); go_simp; (first | done | with_reducible rfl))
      simp only [Act.put, List.setIfInBounds_toArray, List.set_cons_zero, List.set_cons_succ, List.getElem_toArray, List.getElem_cons_zero, List.getElem_cons_succ]
      refine wpAnyH_take (i := 2) (v := ?v17) rfl (by kernel_rfl) (by kernel_rfl) (by kernel_rfl) (fun _ _ _ h => h) (Or.inl ⟨by rfl, ?hy17⟩) (by assumption) ?rest17
      case hy17 => (intro w hSw; (try dsimp only at hSw); go_simp; (first | done | with_reducible rfl))
      simp only [Act.put, List.setIfInBounds_toArray, List.set_cons_zero, List.set_cons_succ, List.getElem_toArray, List.getElem_cons_zero, List.getElem_cons_succ]
      refine wpAnyH_take (i := 3) (v := ?v18) rfl (by kernel_rfl) (by kernel_rfl) (by kernel_rfl) (fun _ _ _ h => h) (Or.inl ⟨by rfl, ?hy18⟩) (by assumption) ?rest18
      case hy18 => (intro w hSw; (try dsimp only at hSw); go_simp; (first | done | with_reducible rfl))
      simp only [Act.put, List.setIfInBounds_toArray, List.set_cons_zero, List.set_cons_succ, List.getElem_toArray, List.getElem_cons_zero, List.getElem_cons_succ]
      refine wpAnyH_take (i := 4) (v := ?v19) rfl (by kernel_rfl) (by kernel_rfl) (by kernel_rfl) (fun _ _ _ h => h) (Or.inl ⟨by rfl, ?hy19⟩) (by assumption) ?rest19
      case hy19 => (intro w hSw; (try dsimp only at hSw); go_simp; (first | done | with_reducible rfl))
      simp only [Act.put, List.setIfInBounds_toArray, List.set_cons_zero, List.set_cons_succ, List.getElem_toArray, List.getElem_cons_zero, List.getElem_cons_succ]
      refine wpAnyH_take (i := 5) (v := undef) rfl (by kernel_rfl) (by kernel_rfl) (by kernel_rfl) (fun _ _ _ h => h) (Or.inr ⟨by rfl, rfl⟩) (by assumption) ?rest20
      simp only [Act.put, List.setIfInBounds_toArray, List.set_cons_zero, List.set_cons_succ, List.getElem_toArray, List.getElem_cons_zero, List.getElem_cons_succ]
      refine wpAnyH_take (i := 6) (v := undef) rfl (by kernel_rfl) (by kernel_rfl) (by kernel_rfl) (fun _ _ _ h => h) (Or.inr ⟨by rfl, rfl⟩) (by assumption) ?rest21
      simp only [Act.put, List.setIfInBounds_toArray, List.set_cons_zero, List.set_cons_succ, List.getElem_toArray, List.getElem_cons_zero, List.getElem_cons_succ]
      refine wpAnyH_take (i := 7) (v := undef) rfl (by kernel_rfl) (by kernel_rfl) (by kernel_rfl) (fun _ _ _ h => h) (Or.inr ⟨by rfl, rfl⟩) (by assumption) ?rest22
      simp only [Act.put, List.setIfInBounds_toArray, List.set_cons_zero, List.set_cons_succ, List.getElem_toArray, List.getElem_cons_zero, List.getElem_cons_succ]
      refine wpAnyH_take (i := 8) (v := undef) rfl (by kernel_rfl) (by kernel_rfl) (by kernel_rfl) (fun _ _ _ h => h) (Or.inr ⟨by rfl, rfl⟩) (by assumption) ?rest23
      simp only [Act.put, List.setIfInBounds_toArray, List.set_cons_zero, List.set_cons_succ, List.getElem_toArray, List.getElem_cons_zero, List.getElem_cons_succ]
      refine wpAnyH_take (i := 9) (v := undef) rfl (by kernel_rfl) (by kernel_rfl) (by kernel_rfl) (fun _ _ _ h => h) (Or.inr ⟨by rfl, rfl⟩) (by assumption) ?rest24
      simp only [Act.put, List.setIfInBounds_toArray, List.set_cons_zero, List.set_cons_succ, List.getElem_toArray, List.getElem_cons_zero, List.getElem_cons_succ]
      refine wpAnyH_take (i := 10) (v := ?v25) rfl (by kernel_rfl) (by kernel_rfl) (by kernel_rfl) (fun _ _ _ h => h) (Or.inl ⟨by rfl, ?hy25⟩) (by assumption) ?rest25
      case hy25 => (intro w hSw; (try dsimp only at hSw); go_simp; (first | done | with_reducible rfl))
      simp only [Act.put, List.setIfInBounds_toArray, List.set_cons_zero, List.set_cons_succ, List.getElem_toArray, List.getElem_cons_zero, List.getElem_cons_succ]
      refine wpAnyH_take (i := 11) (v := ?v26) rfl (by kernel_rfl) (by kernel_rfl) (by kernel_rfl) (fun _ _ _ h => h) (Or.inl ⟨by rfl, ?hy26⟩) (by assumption) ?rest26
      case hy26 => (intro w hSw; (try dsimp only at hSw); go_simp; (first | done | with_reducible rfl))
      simp only [Act.put, List.setIfInBounds_toArray, List.set_cons_zero, List.set_cons_succ, List.getElem_toArray, List.getElem_cons_zero, List.getElem_cons_succ]
      refine wpAnyH_take (i := 12) (v := ?v27) rfl (by kernel_rfl) (by kernel_rfl) (by kernel_rfl) (fun _ _ _ h => h) (Or.inl ⟨by rfl, ?hy27⟩) (by assumption) ?rest27
      case hy27 => (intro w hSw; (try dsimp only at hSw); go_simp; (first | done | with_reducible rfl))
      simp only [Act.put, List.setIfInBounds_toArray, List.set_cons_zero, List.set_cons_succ, List.getElem_toArray, List.getElem_cons_zero, List.getElem_cons_succ]
      refine wpAnyH_take (i := 13) (v := ?v28) rfl (by kernel_rfl) (by kernel_rfl) (by kernel_rfl) (fun _ _ _ h => h) (Or.inl ⟨by rfl, ?hy28⟩) (by assumption) ?rest28
      case hy28 => (intro w hSw; (try dsimp only at hSw); go_simp; (first | done | with_reducible rfl))
      simp only [Act.put, List.setIfInBounds_toArray, List.set_cons_zero, List.set_cons_succ, List.getElem_toArray, List.getElem_cons_zero, List.getElem_cons_succ]
      refine wpAnyH_take (i := 15) (v := ?v29) rfl (by kernel_rfl) (by kernel_rfl) (by kernel_rfl) (fun _ _ _ h => h) (Or.inl ⟨by rfl, ?hy29⟩) (by assumption) ?rest29
      case hy29 => (intro w hSw; (try dsimp only at hSw); go_simp; (first | done | with_reducible rfl))
      simp only [Act.put, List.setIfInBounds_toArray, List.set_cons_zero, List.set_cons_succ, List.getElem_toArray, List.getElem_cons_zero, List.getElem_cons_succ]
      refine wpAnyH_ready (rs := [14]) (by kernel_rfl) (by simp) ?_
      refine AllReadyH.cons rfl (fun K hK => ?_) AllReadyH.nil
      simp only [List.getElem_toArray, List.getElem_cons_zero, List.getElem_cons_succ]
      go_simp
      go_at_call 15
      obtain ⟨h_0, h_1, h_2, h_3, h_4, h_5, h_6, h_7, h_8, h_B⟩ := hHeld
      refine (back_any tr tc (.slice at_ tz.length ct) ⟨_, _, _, rfl⟩ _).mono ?_
      rintro e w_k3 ⟨rfl, k3⟩
      have hc3 := Lib.hid (below_step h_B k3)
      go_wp2_with fail
      refine hK.out _ _ ⟨cell_step k3 h_0, cell_step k3 h_1, cell_step k3 h_2, cell_step k3 h_3, cell_step k3 h_4, cell_step k3 h_5, cell_step k3 h_6, cell_step k3 h_7, cell_step k3 h_8, below_step h_B k3⟩ (fun hHeld => ?_)
      clear hK K h_0 h_1 h_2 h_3 h_4 h_5 h_6 h_7 h_8 h_B
      try simp only [Act.put, List.setIfInBounds_toArray, List.set_cons_zero, List.set_cons_succ, List.getElem_toArray, List.getElem_cons_zero, List.getElem_cons_succ]
      refine wpAnyH_ready (rs := [16]) (by kernel_rfl) (by simp) ?_
      refine AllReadyH.cons rfl (fun K hK => ?_) AllReadyH.nil
      simp only [List.getElem_toArray, List.getElem_cons_zero, List.getElem_cons_succ]
      go_simp
      go_at_call 26
      obtain ⟨h_0, h_1, h_2, h_3, h_4, h_5, h_6, h_7, h_8, h_B⟩ := hHeld
      refine (HRT.out _ (V12.out.later h_B)).mono ?_
      rintro e w_k4 ⟨t2, rfl, ht2, k4⟩
      obtain ⟨at2, ct2, rfl⟩ := ht2.value
      have Z8 := Lib.hid ht2
      have X8 := Lib.hid (TO12.out.later (below_step h_B k4))
      clear ht2
      go_wp2_with fail
      refine hK.out _ _ ⟨cell_step k4 h_0, cell_step k4 h_1, cell_step k4 h_2, cell_step k4 h_3, cell_step k4 h_4, cell_step k4 h_5, cell_step k4 h_6, cell_step k4 h_7, cell_step k4 h_8, below_step h_B k4⟩ (fun hHeld => ?_)
      clear hK K h_0 h_1 h_2 h_3 h_4 h_5 h_6 h_7 h_8 h_B
      try simp only [Act.put, List.setIfInBounds_toArray, List.set_cons_zero, List.set_cons_succ, List.getElem_toArray, List.getElem_cons_zero, List.getElem_cons_succ]
      refine wpAnyH_ready (rs := [17]) (by kernel_rfl) (by simp) ?_
      refine AllReadyH.cons rfl (fun K hK => ?_) AllReadyH.nil
      simp only [List.getElem_toArray, List.getElem_cons_zero, List.getElem_cons_succ]
      go_simp
      go_at_call 14
      obtain ⟨h_0, h_1, h_2, h_3, h_4, h_5, h_6, h_7, h_8, h_B⟩ := hHeld
      refine (same_same tr tc _ _ tz L2.out _ X8.out Z8.out).mono ?_
      rintro e w_k5 ⟨rfl, k5⟩
      have hc5 := Lib.hid (below_step h_B k5)
      go_wp2_with fail
      refine hK.out _ _ ⟨cell_step k5 h_0, cell_step k5 h_1, cell_step k5 h_2, cell_step k5 h_3, cell_step k5 h_4, cell_step k5 h_5, cell_step k5 h_6, cell_step k5 h_7, cell_step k5 h_8, below_step h_B k5⟩ (fun hHeld => ?_)
      clear hK K h_0 h_1 h_2 h_3 h_4 h_5 h_6 h_7 h_8 h_B
      try simp only [Act.put, List.setIfInBounds_toArray, List.set_cons_zero, List.set_cons_succ, List.getElem_toArray, List.getElem_cons_zero, List.getElem_cons_succ]
      refine wpAnyH_take (i := 18) (v := ?v30) rfl (by kernel_rfl) (by kernel_rfl) (by kernel_rfl) (fun _ _ _ h => h) (Or.inl ⟨by rfl, ?hy30⟩) (by assumption) ?rest30
      case hy30 => (intro w hSw; (try dsimp only at hSw); go_simp; (first | done | with_reducible rfl))
      simp only [Act.put, List.setIfInBounds_toArray, List.set_cons_zero, List.set_cons_succ, List.getElem_toArray, List.getElem_cons_zero, List.getElem_cons_succ]
      refine wpAnyH_take (i := 19) (v := ?v31) rfl (by kernel_rfl) (by kernel_rfl) (by kernel_rfl) (fun _ _ _ h => h) (Or.inl ⟨by rfl, ?hy31⟩) (by assumption) ?rest31
      case hy31 => (intro w hSw; (try dsimp only at hSw); go_simp; (first | done | with_reducible rfl))
      simp only [Act.put, List.setIfInBounds_toArray, List.set_cons_zero, List.set_cons_succ, List.getElem_toArray, List.getElem_cons_zero, List.getElem_cons_succ]
      refine wpAnyH_done (by kernel_rfl) ?_ _
      go_wp2_with fail
      go_ret
      exact ⟨rfl, below_step BW.out hc5.out⟩

theorem walk_keeps (r c : Int) (v u : Value) (zs xs : List Int) (hz : ∀ z ∈ zs, Word z) (hx : ∀ z ∈ xs, Word z) (w : World) (hv : IntsW .i64 w.heap.size w v zs) (hu : IntsAt .i64 w.heap.size w u xs) (hmx : xs.length ≤ maxLen) :
    Calls Try.prog 7 #[.agg #[.int .i64 r, .int .i64 c, v], u] w fun e w' => e = .returned (.bool true) ∧ Below w.heap.size w w' := by
  by_cases h6 : zs.length ≤ 600 ∧ xs.length ≤ 600
  case neg => exact walk_keeps_big r c v u zs xs w hv hu hmx (by omega)
  cases hr : rightB r c zs.length
  · exact walk_keeps_no r c v u zs xs hz hx w hv hu h6.1 h6.2 hr
  · exact walk_keeps_yes r c v u zs xs hz hx w hv hu h6.1 h6.2 hr
end Go.Proofs.Ytinflmjombcolaa
