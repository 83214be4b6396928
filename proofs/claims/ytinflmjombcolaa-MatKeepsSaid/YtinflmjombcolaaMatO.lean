/- Layer 7: the reference's Mul. -/
import Derived.Test.YtinflmjombcolaaMatP
import Derived.Test.YtinflmjombcolaaMatN
namespace Go.Proofs.Ytinflmjombcolaa
open Go.RowKit
set_option linter.unusedVariables false
theorem atM_in {R C : Nat} {zs : List Int} {i j : Nat} (hr : rightB R C zs.length = true) (hi : i < R) (hj : j < C) : atM R C zs i j = zs[i * C + j]?.getD 0 := by
  unfold atM inM
  have h0 : (0 : Int) ≤ (i : Int) := by omega
  have h1 : (i : Int) < (R : Int) := by omega
  have h2 : (0 : Int) ≤ (j : Int) := by omega
  have h3 : (j : Int) < (C : Int) := by omega
  rw [hr, decide_eq_true h0, decide_eq_true h1, decide_eq_true h2, decide_eq_true h3]
  have : ((i : Int) * C + j).toNat = i * C + j := by
    have : (i : Int) * C = ((i * C : Nat) : Int) := by simp
    omega
  rw [this]
  rfl
theorem right_len {R C n : Nat} (hr : rightB R C n = true) : 1 ≤ R ∧ R ≤ 1048576 ∧ 1 ≤ C ∧ C ≤ 1048576 ∧ n = R * C := by
  obtain ⟨r1, r2, c1, c2, hlen⟩ := right_some hr
  have : (n : Int) = ((R * C : Nat) : Int) := by rw [hlen]; simp
  omega
theorem mul_right {r c : Int} {n k : Nat} (h : mulB r c n k = true) : rightB r c n = true ∧ (k : Int) = c := by
  unfold mulB at h
  simpa using h
set_option maxHeartbeats 1000000 in
theorem refMM_no (r c : Int) (a a' : Option Addr) (n cap k cap' : Nat) (q : Int) (h : mulB r c n k = false) (w : World) :
    Calls Try.prog 22 #[.agg #[.int .i64 r, .int .i64 c, .slice a n cap], .slice a' k cap', .int .i64 q] w fun e w' => e = .returned (.tuple #[.slice none 0 0, .bool false]) ∧ Below w.heap.size w w' := by
  have AL := Lib.hid ((Below.refl w.heap.size w).alloc (Nat.le_refl _) (.cells #[.int .i64 r, .int .i64 c, .slice a n cap] 24))
  have M0 := Lib.hid (Is3.new w (.int .i64 r) (.int .i64 c) (.slice a n cap) 24)
  have HR := Lib.hid (fun W => refRight_any r c a n cap W)
  cases hr : rightB r c n
  · rw [hr] at HR
    clear hr h
    go_enter Try.func22, Try.ntmps22
    go_upto_region 1 with fail
    generalize w.alloc (.cells #[.int .i64 r, .int .i64 c, .slice a n cap] 24) = W0 at *
    obtain ⟨m0, m1, m2⟩ := M0.out
    go_wp2_with fail
    refine (HR.out _).mono ?_
    rintro e w1 ⟨rfl, b1⟩
    have B1 := Lib.hid (below_step AL.out b1)
    clear b1
    go_wp2_with fail
    go_ret2
    exact ⟨rfl, B1.out⟩
  · have hne : ¬ (k : Int) = c := by
      unfold mulB at h
      rw [hr] at h
      simpa using h
    have g : ((k : Int) != c) = true := by simpa using hne
    rw [hr] at HR
    clear hr h hne
    go_enter Try.func22, Try.ntmps22
    go_upto_region 1 with fail
    generalize w.alloc (.cells #[.int .i64 r, .int .i64 c, .slice a n cap] 24) = W0 at *
    obtain ⟨m0, m1, m2⟩ := M0.out
    go_wp2_with fail
    refine (HR.out _).mono ?_
    rintro e w1 ⟨rfl, b1⟩
    have B1 := Lib.hid (below_step AL.out b1)
    have k1 := cell_step b1 m1
    clear b1
    go_wp2_with fail
    go_ret2
    exact ⟨rfl, B1.out⟩
theorem mulL_take (R C : Nat) (zs xs : List Int) (q : Int) (k : Nat) (h : k < R) : (mulL R C zs xs q).take (k + 1) = (mulL R C zs xs q).take k ++ [dotV (rowL zs C k) xs q] := by
  rw [List.take_succ_eq_append_getElem (by rw [mulL_length]; exact h)]
  simp [mulL]
set_option maxHeartbeats 4000000 in
theorem refMM_yes (R C : Nat) (v u : Value) (zs xs : List Int) (q : Int) (h : mulB R C zs.length xs.length = true) (hz : ∀ z ∈ zs, Word z) (hx : ∀ z ∈ xs, Word z) (hm : zs.length ≤ 1048576) (w : World) (hv0 : IntsW .i64 w.heap.size w v zs) (hu : IntsAt .i64 w.heap.size w u xs) :
    Calls Try.prog 22 #[.agg #[.int .i64 R, .int .i64 C, v], u, .int .i64 q] w (NewInts (mulL R C zs xs q) w) := by
  obtain ⟨hr, hxc⟩ := mul_right h
  have hxc' : xs.length = C := by omega
  subst hxc'
  obtain ⟨r1, r2, c1, c2, hlen⟩ := right_len hr
  obtain ⟨a, cap, rfl⟩ := hv0.value
  obtain ⟨a', cap', rfl⟩ := ints_value hu
  have AL := Lib.hid ((Below.refl w.heap.size w).alloc (Nat.le_refl _) (.cells #[.int .i64 R, .int .i64 xs.length, .slice a zs.length cap] 24))
  have M0 := Lib.hid (Is3.new w (.int .i64 R) (.int .i64 xs.length) (.slice a zs.length cap) 24)
  have HR := Lib.hid (fun W => refRight_any R xs.length a zs.length cap W)
  rw [hr] at HR
  have g1 : ((xs.length : Int) != (xs.length : Int)) = false := by simp
  have HA := Lib.hid (fun (i j : Nat) W => refAt_any R xs.length (.slice a zs.length cap) zs i j hm W)
  have V0 := Lib.hid (hv0.later AL.out)
  have U0 := Lib.hid (hu.later AL.out)
  have HL := Lib.hid hlen
  have HRB := Lib.hid hr
  have HZ := Lib.hid hz
  have HX := Lib.hid hx
  clear hlen hr h hv0 hu hz hx hxc
  go_enter Try.func22, Try.ntmps22
  go_upto_region 1 with fail
  generalize w.alloc (.cells #[.int .i64 R, .int .i64 xs.length, .slice a zs.length cap] 24) = W0 at *
  obtain ⟨m0, m1, m2⟩ := M0.out
  go_wp2_with fail
  refine (HR.out _).mono ?_
  rintro e w1 ⟨rfl, b1⟩
  have B1 := Lib.hid (below_step AL.out b1)
  have M1 := Lib.hid (M0.out.later b1)
  have V1 := Lib.hid (V0.out.later b1)
  have U1 := Lib.hid (U0.out.later b1)
  clear b1 m0 m1 m2 V0 U0 M0 HR
  obtain ⟨m0, m1, m2⟩ := M1.out
  go_wp2_with fail
  go_loopw [8, 9] (fun o i wr => ∃ k : Nat, k ≤ R ∧ i = .int .i64 k ∧ wr.ownsRow w1.heap.size 2 1 o k (((mulL R xs.length zs xs q).take k).map (Value.int .i64)) ∧ Below w1.heap.size w1 wr) (fun _ i _ => R - (intOf i).toNat)
  case atStart => exact ⟨0, Nat.zero_le _, rfl, by rw [List.take_zero]; exact ⟨rfl, .inl ⟨rfl, rfl⟩⟩, Below.refl _ _⟩
  case round =>
    obtain ⟨k, hk, rfl, ho, hB⟩ := hrel
    obtain ⟨ao, co, rfl⟩ := own_value ho
    have HO := Lib.hid ho
    have HB := Lib.hid hB
    have M2 := Lib.hid (M1.out.later hB)
    clear ho hB m0 m1 m2
    obtain ⟨m0, m1, m2⟩ := M2.out
    by_cases hlt : k < R
    · generalize hwo : wr = wo at *
      clear hwo wr
      have HT := Lib.hid (mulL_take R xs.length zs xs q k hlt)
      have hrl := rowL_length HL.out hlt
      have HRL := Lib.hid hrl
      have HRW := Lib.hid (fun z (hz' : z ∈ rowL zs xs.length k) => HZ.out z (rowL_mem hz'))
      have HRG := Lib.hid (fun j (hj : j < xs.length) => (atM_in HRB.out hlt hj).trans (rowL_get HL.out hlt hj).symm)
      have hD : Hid (dotV (rowL zs xs.length k) xs q = sumw (prods (rowL zs xs.length k) xs q)) := Lib.hid (by unfold dotV; rw [if_pos hrl])
      rw [hD.out] at HT
      have HA1 := Lib.hid (fun j W => HA.out k j W)
      generalize rowL zs xs.length k = row at *
      generalize (mulL R xs.length zs xs q).take k = done at *
      have HS0 := Lib.hid sumw_nil
      clear hrl hD HA
      go_wp2_with fail
      go_loopw [10, 11] (fun s i wr => ∃ j : Nat, j ≤ xs.length ∧ i = .int .i64 j ∧ s = .int .i64 (sumw (prods (row.take j) (xs.take j) q)) ∧ Below wo.heap.size wo wr) (fun _ i _ => xs.length - (intOf i).toNat)
      case atStart => exact ⟨0, Nat.zero_le _, rfl, by rw [List.take_zero, List.take_zero]; exact congrArg (Value.int .i64) HS0.out.symm, Below.refl _ _⟩
      case round =>
        obtain ⟨j, hj, rfl, rfl, hB⟩ := hrel
        have M3 := Lib.hid (M2.out.later hB)
        have B3 := Lib.hid (HB.out.trans (hB.mono HB.out.size))
        have HB3 := Lib.hid hB
        clear hB m0 m1 m2
        obtain ⟨m0, m1, m2⟩ := M3.out
        by_cases hjl : j < xs.length
        · have hp := prods_take row xs q j (by rw [HRL.out]; exact hjl) hjl
          have hjr : j < row.length := by rw [HRL.out]; exact hjl
          rcases U1.out.form with ⟨_, e0⟩ | ⟨b', off', c', e0, hcap', hg', hcs'⟩
          · rw [e0] at hjl; cases hjl
          cases e0
          have cx := (B3.out.cell (p := ⟨b', off' + j, none⟩) hg').trans (hcs' j hjl)
          have hy := HX.out (xs[j]?.getD 0) (by rw [List.getElem?_eq_getElem hjl]; exact List.getElem_mem _)
          have hx := HRW.out (row[j]?.getD 0) (by rw [List.getElem?_eq_getElem hjr]; exact List.getElem_mem _)
          have hg := HRG.out j hjl
          have V3 := Lib.hid ((V1.out.below B3.out).grow B3.out.size)
          have HA2 := Lib.hid (fun W => HA1.out j W)
          rw [hg] at HA2
          have HP := Lib.hid hp
          have hbl := World.block_lt_of_cell? _ _ cx
          clear hcs' hg hp hjr
          generalize row[j]?.getD 0 = x at *
          generalize xs[j]?.getD 0 = y at *
          generalize prods (row.take j) (xs.take j) q = ps at *
          have HSN := Lib.hid (sumw_snoc ps (mulq x y q))
          generalize hT : sumw ps = t at *
          have HM := Lib.hid (fun W => (refMul_any x y q hx.1 hx.2 hy.1 hy.2 W).mono (fun _ w' (h : _ ∧ _) => And.intro h.1 (show Below W.heap.size W w' from h.2 ▸ Below.refl _ _)))
          generalize mulq x y q = p at *
          clear hT
          have jx : (j : Int) < (xs.length : Int) := by omega
          have j0 : (0 : Int) ≤ (j : Int) := by omega
          go_wp2_with fail
          refine wp_region_held_drew (S := fun w' => w'.cell? ⟨w.heap.size, 0, none⟩ = some (.int .i64 R) ∧ w'.cell? ⟨w.heap.size, 1, none⟩ = some (.int .i64 xs.length) ∧ w'.cell? ⟨w.heap.size, 2, none⟩ = some (.slice a zs.length cap) ∧ w'.cell? ⟨b', off' + j, none⟩ = some (.int .i64 y) ∧ Below wr.heap.size wr w') (by kernel_rfl) ?_ (fun hHeld => ?_)
          · exact ⟨m0, m1, m2, cx, (Below.refl _ _).drew⟩
          refine wpAnyH_take (i := 0) (v := ?v1) rfl (by kernel_rfl) (by kernel_rfl) (by kernel_rfl) (fun _ _ _ h => h) (Or.inl ⟨by rfl, ?hy1⟩) (by assumption) ?rest1
          case hy1 => (intro w hSw; (try dsimp only at hSw); go_simp; (first | done | with_reducible rfl))
          simp only [Act.put, List.setIfInBounds_toArray, List.set_cons_zero, List.set_cons_succ, List.getElem_toArray, List.getElem_cons_zero]
          refine wpAnyH_take (i := 1) (v := ?v2) rfl (by kernel_rfl) (by kernel_rfl) (by kernel_rfl) (fun _ _ _ h => h) (Or.inl ⟨by rfl, ?hy2⟩) (by assumption) ?rest2
          case hy2 => (intro w hSw; (try dsimp only at hSw); go_simp; (first | done | with_reducible rfl))
          simp only [Act.put, List.setIfInBounds_toArray, List.set_cons_zero, List.set_cons_succ, List.getElem_toArray, List.getElem_cons_zero, List.getElem_cons_succ]
          refine wpAnyH_take (i := 2) (v := ?v3) rfl (by kernel_rfl) (by kernel_rfl) (by kernel_rfl) (fun _ _ _ h => h) (Or.inl ⟨by rfl, ?hy3⟩) (by assumption) ?rest3
          case hy3 => (intro w hSw; (try dsimp only at hSw); go_simp; (first | done | with_reducible rfl))
          simp only [Act.put, List.setIfInBounds_toArray, List.set_cons_zero, List.set_cons_succ, List.getElem_toArray, List.getElem_cons_zero, List.getElem_cons_succ]
          refine wpAnyH_take (i := 3) (v := ?v4) rfl (by kernel_rfl) (by kernel_rfl) (by kernel_rfl) (fun _ _ _ h => h) (Or.inl ⟨by rfl, ?hy4⟩) (by assumption) ?rest4
          case hy4 => (intro w hSw; (try dsimp only at hSw); go_simp; (first | done | with_reducible rfl))
          simp only [Act.put, List.setIfInBounds_toArray, List.set_cons_zero, List.set_cons_succ, List.getElem_toArray, List.getElem_cons_zero, List.getElem_cons_succ]
          refine wpAnyH_take (i := 5) (v := ?v5) rfl (by kernel_rfl) (by kernel_rfl) (by kernel_rfl) (fun _ _ _ h => h) (Or.inl ⟨by rfl, ?hy5⟩) (by assumption) ?rest5
          case hy5 => (intro w hSw; (try dsimp only at hSw); go_simp; (first | done | with_reducible rfl))
          simp only [Act.put, List.setIfInBounds_toArray, List.set_cons_zero, List.set_cons_succ, List.getElem_toArray, List.getElem_cons_zero, List.getElem_cons_succ]
          refine wpAnyH_take (i := 6) (v := ?v6) rfl (by kernel_rfl) (by kernel_rfl) (by kernel_rfl) (fun _ _ _ h => h) (Or.inl ⟨by rfl, ?hy6⟩) (by assumption) ?rest6
          case hy6 => (intro w hSw; (try dsimp only at hSw); go_simp; (first | done | with_reducible rfl))
          simp only [Act.put, List.setIfInBounds_toArray, List.set_cons_zero, List.set_cons_succ, List.getElem_toArray, List.getElem_cons_zero, List.getElem_cons_succ]
          refine wpAnyH_take (i := 7) (v := ?v7) rfl (by kernel_rfl) (by kernel_rfl) (by kernel_rfl) (fun _ _ _ h => h) (Or.inl ⟨by rfl, ?hy7⟩) (by assumption) ?rest7
          case hy7 => (intro w hSw; (try dsimp only at hSw); go_simp; (first | done | with_reducible rfl))
          simp only [Act.put, List.setIfInBounds_toArray, List.set_cons_zero, List.set_cons_succ, List.getElem_toArray, List.getElem_cons_zero, List.getElem_cons_succ]
          refine wpAnyH_take (i := 8) (v := ?v8) rfl (by kernel_rfl) (by kernel_rfl) (by kernel_rfl) (fun _ _ _ h => h) (Or.inl ⟨by rfl, ?hy8⟩) (by assumption) ?rest8
          case hy8 => (intro w hSw; (try dsimp only at hSw); go_simp; (first | done | with_reducible rfl))
          simp only [Act.put, List.setIfInBounds_toArray, List.set_cons_zero, List.set_cons_succ, List.getElem_toArray, List.getElem_cons_zero, List.getElem_cons_succ]
          refine wpAnyH_take (i := 9) (v := ?v9) rfl (by kernel_rfl) (by kernel_rfl) (by kernel_rfl) (fun _ _ _ h => h) (Or.inl ⟨by rfl, ?hy9⟩) (by assumption) ?rest9
          case hy9 => (intro w hSw; (try dsimp only at hSw); go_simp; (first | done | with_reducible rfl))
          simp only [Act.put, List.setIfInBounds_toArray, List.set_cons_zero, List.set_cons_succ, List.getElem_toArray, List.getElem_cons_zero, List.getElem_cons_succ]
          refine wpAnyH_ready (rs := [4]) (by kernel_rfl) (by simp) ?_
          refine AllReadyH.cons rfl (fun K hK => ?_) AllReadyH.nil
          simp only [List.getElem_toArray, List.getElem_cons_zero, List.getElem_cons_succ]
          go_simp
          go_at_call 17
          obtain ⟨h_0, h_1, h_2, h_3, h_B⟩ := hHeld
          refine (HA2.out _ (V3.out.later h_B)).mono ?_
          rintro e w_k1 ⟨rfl, k1⟩
          have hb1 := Lib.hid (below_step h_B k1)
          go_wp2_with fail
          refine hK.out _ _ ⟨cell_step k1 h_0, cell_step k1 h_1, cell_step k1 h_2, cell_step k1 h_3, below_step h_B k1⟩ (fun hHeld => ?_)
          clear hK K h_0 h_1 h_2 h_3 h_B
          try simp only [Act.put, List.setIfInBounds_toArray, List.set_cons_zero, List.set_cons_succ, List.getElem_toArray, List.getElem_cons_zero, List.getElem_cons_succ]
          refine wpAnyH_ready (rs := [10]) (by kernel_rfl) (by simp) ?_
          refine AllReadyH.cons rfl (fun K hK => ?_) AllReadyH.nil
          simp only [List.getElem_toArray, List.getElem_cons_zero, List.getElem_cons_succ]
          go_simp
          go_at_call 38
          obtain ⟨h_0, h_1, h_2, h_3, h_B⟩ := hHeld
          refine (HM.out _).mono ?_
          rintro e w_k2 ⟨rfl, k2⟩
          have hb2 := Lib.hid (below_step h_B k2)
          go_wp2_with fail
          refine hK.out _ _ ⟨cell_step k2 h_0, cell_step k2 h_1, cell_step k2 h_2, cell_step k2 h_3, below_step h_B k2⟩ (fun hHeld => ?_)
          clear hK K h_0 h_1 h_2 h_3 h_B
          try simp only [Act.put, List.setIfInBounds_toArray, List.set_cons_zero, List.set_cons_succ, List.getElem_toArray, List.getElem_cons_zero, List.getElem_cons_succ]
          refine wpAnyH_take (i := 11) (v := ?v10) rfl (by kernel_rfl) (by kernel_rfl) (by kernel_rfl) (fun _ _ _ h => h) (Or.inl ⟨by rfl, ?hy10⟩) (by assumption) ?rest10
          case hy10 => (intro w hSw; (try dsimp only at hSw); go_simp; (first | done | with_reducible rfl))
          simp only [Act.put, List.setIfInBounds_toArray, List.set_cons_zero, List.set_cons_succ, List.getElem_toArray, List.getElem_cons_zero, List.getElem_cons_succ]
          refine wpAnyH_take (i := 12) (v := ?v11) rfl (by kernel_rfl) (by kernel_rfl) (by kernel_rfl) (fun _ _ _ h => h) (Or.inl ⟨by rfl, ?hy11⟩) (by assumption) ?rest11
          case hy11 => (intro w hSw; (try dsimp only at hSw); go_simp; (first | done | with_reducible rfl))
          simp only [Act.put, List.setIfInBounds_toArray, List.set_cons_zero, List.set_cons_succ, List.getElem_toArray, List.getElem_cons_zero, List.getElem_cons_succ]
          refine wpAnyH_done (by kernel_rfl) ?_ _
          obtain ⟨_, _, _, _, h_B⟩ := hHeld
          have HBX := Lib.hid (HB3.out.trans (h_B.mono HB3.out.size))
          clear h_B
          go_wp2_with fail
          go_roundw
          case rel => exact ⟨j + 1, by omega, by go_num, by rw [HP.out, HSN.out, ← IntWalk.i64_left], HBX.out⟩
          case measure => simp [intOf]; omega
        · have hj' : j = xs.length := by omega
          subst hj'
          rw [List.take_length, List.take_of_length_le (by rw [HRL.out]; exact Nat.le_refl _)]
          generalize sumw (prods row xs q) = s at *
          have HO3 := Lib.hid (own_below HO.out HB3.out)
          have hB3s := B3.out.size
          go_wp2_with (at_builtin; refine append_one elemRef rfl _ _ rfl rfl rfl HO3.out rfl ?_ ?_ ?_ ?_ ?_; (simp [Value.oneCell']); (unfold maxLen; omega); omega; (exact hB3s); intro v' w' ho' hg'; have HO4 := Lib.hid ho'; have HB4 := Lib.hid (below_appended B3.out HO3.out hg' (Nat.le_refl _) hB3s); clear ho' hg')
          go_roundw
          case rel => exact ⟨k + 1, by omega, by go_num, by rw [HT.out, List.map_append]; exact HO4.out, HB4.out⟩
          case measure => simp [intOf]; omega
    · have hk' : k = R := by omega
      subst hk'
      go_wp2_with fail
      go_ret2
      refine ⟨_, rfl, ?_, below_step B1.out HB.out⟩
      rw [mulL_length]
      have := HO.out
      rw [List.take_of_length_le (by rw [mulL_length]; exact Nat.le_refl _)] at this
      exact owns_mono B1.out.size this
end Go.Proofs.Ytinflmjombcolaa
