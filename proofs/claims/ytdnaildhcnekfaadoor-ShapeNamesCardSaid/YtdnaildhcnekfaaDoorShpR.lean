/- Layer 8: the name of any parameter, and the index with a name. -/
import Derived.Test.YtdnaildhcnekfaaDoorShpQ
import Derived.Deep.Cut
import Derived.BigQuiet
import Derived.Lib.AppendIntMem
namespace Go.Proofs.YtdnaildhcnekfaaDoor
open Go.RowKit
set_option linter.unusedVariables false
def Pow10 (w : World) : Prop := Lib.TabIs Tryd.prog w "internal/strconv.uint64pow10" .u64 Lib.pow10Tab
theorem Pow10.later {w w' : World} (h : Pow10 w) (b : Below w.heap.size w w') : Pow10 w' := Lib.tabBelow_of_tabIs h w' b
theorem says_dec (z : Int) (h0 : 0 ≤ z) (h1 : z ≤ 1048576) (w : World) (ht : Pow10 w) : Says smallD z w := fun W hW =>
  (Tryd.strconv_Itoa z (by omega) (by omega) W (ht.later hW)).mono fun e w' ⟨he, k, os, hw⟩ => ⟨by rw [he]; unfold smallD Lib.itoa; rw [if_neg (by omega)], by rw [hw]; exact Lib.below_grow _ _ (Nat.le_refl _) _ _⟩
set_option maxRecDepth 4000 in
set_option maxHeartbeats 2000000 in
theorem guess_any (N b : Nat) (ss : List Int) (hr : RightH ss) (L n0 n1 n2 : Int) (w : World) (h : ShapeAt N b w ss) :
    Calls Tryd.prog 34 #[.pointer (some ⟨b, 0, none⟩), .int .i32 L, .agg #[.int .i64 n0, .int .i64 n1, .int .i64 n2]] w fun e w' => e = .returned (.int .i64 (guessV ss L n0 n1 n2)) ∧ Below w.heap.size w w' := by
  have h16 := hr.l16
  have h2 := hr.l2
  have bA := (Below.refl w.heap.size w).alloc (Nat.le_refl _) (.cells #[.int .i64 n0, .int .i64 n1, .int .i64 n2] 62)
  have cN := cell_new w #[.int .i64 n0, .int .i64 n1, .int .i64 n2] 62
  have c0 := (cN 0).trans rfl
  have c1 := (cN 1).trans rfl
  have c2 := (cN 2).trans rfl
  have HA := Lib.hid (h.later bA)
  clear cN h
  go_enter Tryd.func34, Tryd.ntmps34
  go_wp2_with fail
  go_quiet (fail)
  have bD := below_drewN bA nq
  have HD := Lib.hid (HA.out.later (below_drewN (Below.refl _ _) nq))
  have hl := link_any N b ss (by omega) n0 _ HD.out
  clear HA c0 c1 c2 bA
  generalize (w.alloc (.cells #[.int .i64 n0, .int .i64 n1, .int .i64 n2] 62)).drewN nq = w1 at *
  have B1 := Lib.hid bD
  clear bD
  by_cases hk : 0 ≤ n0 ∧ n0 < ((ss.length - 1 : Nat) : Int)
  · rw [show (decide (0 ≤ n0) && decide (n0 < ((ss.length - 1 : Nat) : Int))) = true by simp; exact hk] at hl
    have HG := Lib.hid (show guessV ss L n0 n1 n2 = if L = 98 then wrap64 ((bR ss n0.toNat).1 + n1) else wrap64 (wrap64 ((wR ss n0.toNat).1 + wrap64 (n1 * (ss[n0.toNat]?.getD 0))) + n2) from if_pos hk)
    obtain ⟨k, rfl⟩ : ∃ k : Nat, n0 = k := ⟨n0.toNat, by omega⟩
    rw [Int.toNat_natCast] at HG
    have hk1 : k + 1 < ss.length := by omega
    go_wp2_with fail
    refine hl.mono ?_
    rintro e w2 ⟨rfl, b2⟩
    have B2 := Lib.hid (B1.out.trans (b2.mono B1.out.size))
    have HS2 := Lib.hid (HD.out.later b2)
    clear HD b2 hl B1
    by_cases hL : L = 98
    · subst hL
      rw [if_pos rfl] at HG
      have HB := biases_in N b ss hr k hk1 w2 HS2.out
      generalize bR ss k = r at *
      obtain ⟨r0, r1⟩ := r
      have hfd : ∀ W, (Instr.field 35 (.agg #[.int .i64 r0, .int .i64 r1]) 0).run Tryd.prog W = .ok (.int .i64 r0) W := fun _ => by kernel_rfl
      go_wp2_with fail
      refine HB.mono ?_
      rintro e w3 ⟨rfl, b3⟩
      have B3 := Lib.hid (B2.out.trans (b3.mono B2.out.size))
      clear B2 HB b3
      go_wp2_with fail
      go_ret
      exact ⟨by rw [HG.out]; first | rfl | (simp only [← IntWalk.i64_left]; rfl), B3.out⟩
    · rw [if_neg hL] at HG
      have gL : (L == 98) = false := by simpa using hL
      obtain ⟨h0', hb', h2', v', u', c0, c1, o0, o1⟩ := HS2.out
      obtain ⟨g0, cc0, rfl, hg3, hg4⟩ := own_some o0 (by omega)
      have ds := o0.cellAt k (by omega)
      have e2 : (ss.map (Value.int .i64))[k]? = some (.int .i64 (ss[k]?.getD 0)) := by rw [List.getElem?_map, List.getElem?_eq_getElem (by omega)]; rfl
      rw [e2] at ds
      have j0 : (0 : Int) ≤ (k : Int) := by omega
      have j1 : (k : Int) < (ss.length : Int) := by omega
      have j2 : k < ss.length := by omega
      have HW := Lib.hid (fun W (hW : Below w2.heap.size w2 W) => weights_in N b ss hr k hk1 W (HS2.out.later hW))
      generalize ss[k]?.getD 0 = s at *
      generalize wR ss k = r at *
      obtain ⟨r0, r1⟩ := r
      clear e2 o0 o1 c1 HS2
      go_upto_region 2 with fail
      refine wp_region_held_drew (S := fun w' => w'.cell? ⟨b, 0, none⟩ = some (.slice (some ⟨g0, 0, none⟩) ss.length cc0) ∧ w'.cell? ⟨g0, k, none⟩ = some (.int .i64 s) ∧ Below w2.heap.size w2 w') (by kernel_rfl) ?_ (fun hHeld => ?_)
      · exact ⟨c0, ds, (Below.refl _ _).drew⟩
      refine wpAnyH_take (i := 0) (v := ?v1) rfl (by kernel_rfl) (by kernel_rfl) (by kernel_rfl) (fun _ _ _ h => h) (Or.inl ⟨by rfl, ?hy1⟩) (by assumption) ?rest1
      case hy1 => (intro w hSw; (try dsimp only at hSw); go_simp; (first | done | with_reducible rfl))
      simp only [Act.put, List.setIfInBounds_toArray, List.set_cons_zero, List.set_cons_succ, List.getElem_toArray, List.getElem_cons_zero]
      refine wpAnyH_take (i := 1) (v := ?v2) rfl (by kernel_rfl) (by kernel_rfl) (by kernel_rfl) (fun _ _ _ h => h) (Or.inl ⟨by rfl, ?hy2⟩) (by assumption) ?rest2
      case hy2 => (intro w hSw; (try dsimp only at hSw); go_simp; (first | done | with_reducible rfl))
      simp only [Act.put, List.setIfInBounds_toArray, List.set_cons_zero, List.set_cons_succ, List.getElem_toArray, List.getElem_cons_zero, List.getElem_cons_succ]
      refine wpAnyH_take (i := 4) (v := ?v3) rfl (by kernel_rfl) (by kernel_rfl) (by kernel_rfl) (fun _ _ _ h => h) (Or.inl ⟨by rfl, ?hy3⟩) (by assumption) ?rest3
      case hy3 => (intro w hSw; (try dsimp only at hSw); go_simp; (first | done | with_reducible rfl))
      simp only [Act.put, List.setIfInBounds_toArray, List.set_cons_zero, List.set_cons_succ, List.getElem_toArray, List.getElem_cons_zero, List.getElem_cons_succ]
      refine wpAnyH_take (i := 5) (v := ?v4) rfl (by kernel_rfl) (by kernel_rfl) (by kernel_rfl) (fun _ _ _ h => h) (Or.inl ⟨by rfl, ?hy4⟩) (by assumption) ?rest4
      case hy4 => (intro w hSw; (try dsimp only at hSw); go_simp; (first | done | with_reducible rfl))
      simp only [Act.put, List.setIfInBounds_toArray, List.set_cons_zero, List.set_cons_succ, List.getElem_toArray, List.getElem_cons_zero, List.getElem_cons_succ]
      refine wpAnyH_take (i := 6) (v := ?v5) rfl (by kernel_rfl) (by kernel_rfl) (by kernel_rfl) (fun _ _ _ h => h) (Or.inl ⟨by rfl, ?hy5⟩) (by assumption) ?rest5
      case hy5 => (intro w hSw; (try dsimp only at hSw); go_simp; (first | done | with_reducible rfl))
      simp only [Act.put, List.setIfInBounds_toArray, List.set_cons_zero, List.set_cons_succ, List.getElem_toArray, List.getElem_cons_zero, List.getElem_cons_succ]
      refine wpAnyH_take (i := 7) (v := ?v6) rfl (by kernel_rfl) (by kernel_rfl) (by kernel_rfl) (fun _ _ _ h => h) (Or.inl ⟨by rfl, ?hy6⟩) (by assumption) ?rest6
      case hy6 => (intro w hSw; (try dsimp only at hSw); go_simp; (first | done | with_reducible rfl))
      simp only [Act.put, List.setIfInBounds_toArray, List.set_cons_zero, List.set_cons_succ, List.getElem_toArray, List.getElem_cons_zero, List.getElem_cons_succ]
      refine wpAnyH_take (i := 8) (v := ?v7) rfl (by kernel_rfl) (by kernel_rfl) (by kernel_rfl) (fun _ _ _ h => h) (Or.inl ⟨by rfl, ?hy7⟩) (by assumption) ?rest7
      case hy7 => (intro w hSw; (try dsimp only at hSw); go_simp; (first | done | with_reducible rfl))
      simp only [Act.put, List.setIfInBounds_toArray, List.set_cons_zero, List.set_cons_succ, List.getElem_toArray, List.getElem_cons_zero, List.getElem_cons_succ]
      refine wpAnyH_take (i := 9) (v := ?v8) rfl (by kernel_rfl) (by kernel_rfl) (by kernel_rfl) (fun _ _ _ h => h) (Or.inl ⟨by rfl, ?hy8⟩) (by assumption) ?rest8
      case hy8 => (intro w hSw; (try dsimp only at hSw); go_simp; (first | done | with_reducible rfl))
      simp only [Act.put, List.setIfInBounds_toArray, List.set_cons_zero, List.set_cons_succ, List.getElem_toArray, List.getElem_cons_zero, List.getElem_cons_succ]
      refine wpAnyH_take (i := 10) (v := ?v9) rfl (by kernel_rfl) (by kernel_rfl) (by kernel_rfl) (fun _ _ _ h => h) (Or.inl ⟨by rfl, ?hy9⟩) (by assumption) ?rest9
      case hy9 => (intro w hSw; (try dsimp only at hSw); go_simp; (first | done | with_reducible rfl))
      simp only [Act.put, List.setIfInBounds_toArray, List.set_cons_zero, List.set_cons_succ, List.getElem_toArray, List.getElem_cons_zero, List.getElem_cons_succ]
      refine wpAnyH_take (i := 11) (v := ?v10) rfl (by kernel_rfl) (by kernel_rfl) (by kernel_rfl) (fun _ _ _ h => h) (Or.inl ⟨by rfl, ?hy10⟩) (by assumption) ?rest10
      case hy10 => (intro w hSw; (try dsimp only at hSw); go_simp; (first | done | with_reducible rfl))
      simp only [Act.put, List.setIfInBounds_toArray, List.set_cons_zero, List.set_cons_succ, List.getElem_toArray, List.getElem_cons_zero, List.getElem_cons_succ]
      refine wpAnyH_take (i := 12) (v := ?v11) rfl (by kernel_rfl) (by kernel_rfl) (by kernel_rfl) (fun _ _ _ h => h) (Or.inl ⟨by rfl, ?hy11⟩) (by assumption) ?rest11
      case hy11 => (intro w hSw; (try dsimp only at hSw); go_simp; (first | done | with_reducible rfl))
      simp only [Act.put, List.setIfInBounds_toArray, List.set_cons_zero, List.set_cons_succ, List.getElem_toArray, List.getElem_cons_zero, List.getElem_cons_succ]
      refine wpAnyH_take (i := 14) (v := ?v12) rfl (by kernel_rfl) (by kernel_rfl) (by kernel_rfl) (fun _ _ _ h => h) (Or.inl ⟨by rfl, ?hy12⟩) (by assumption) ?rest12
      case hy12 => (intro w hSw; (try dsimp only at hSw); go_simp; (first | done | with_reducible rfl))
      simp only [Act.put, List.setIfInBounds_toArray, List.set_cons_zero, List.set_cons_succ, List.getElem_toArray, List.getElem_cons_zero, List.getElem_cons_succ]
      refine wpAnyH_ready (rs := [2]) (by kernel_rfl) (by simp) ?_
      refine AllReadyH.cons rfl (fun K hK => ?_) AllReadyH.nil
      simp only [List.getElem_toArray, List.getElem_cons_zero, List.getElem_cons_succ]
      go_simp
      go_at_call 16
      obtain ⟨h_0, h_1, h_B⟩ := hHeld
      refine (HW.out _ h_B).mono ?_
      rintro e w_k1 ⟨rfl, k1⟩
      have hb1 := Lib.hid (below_step h_B k1)
      go_wp2_with fail
      refine hK.out _ _ ⟨cell_step k1 h_0, cell_step k1 h_1, below_step h_B k1⟩ (fun hHeld => ?_)
      clear hK K h_0 h_1 h_B
      try simp only [Act.put, List.setIfInBounds_toArray, List.set_cons_zero, List.set_cons_succ, List.getElem_toArray, List.getElem_cons_zero, List.getElem_cons_succ]
      have hfd : ∀ W, (Instr.field 35 (.agg #[.int .i64 r0, .int .i64 r1]) 0).run Tryd.prog W = .ok (.int .i64 r0) W := fun _ => by kernel_rfl
      refine wpAnyH_take (i := 3) (v := ?v13) rfl (by kernel_rfl) (by kernel_rfl) (by kernel_rfl) (fun _ _ _ h => h) (Or.inl ⟨by rfl, ?hy13⟩) (by assumption) ?rest13
      case hy13 => (intro w hSw; (try dsimp only at hSw); go_simp; (first | done | with_reducible rfl))
      simp only [Act.put, List.setIfInBounds_toArray, List.set_cons_zero, List.set_cons_succ, List.getElem_toArray, List.getElem_cons_zero, List.getElem_cons_succ]
      refine wpAnyH_take (i := 13) (v := ?v14) rfl (by kernel_rfl) (by kernel_rfl) (by kernel_rfl) (fun _ _ _ h => h) (Or.inl ⟨by rfl, ?hy14⟩) (by assumption) ?rest14
      case hy14 => (intro w hSw; (try dsimp only at hSw); go_simp; (first | done | with_reducible rfl))
      simp only [Act.put, List.setIfInBounds_toArray, List.set_cons_zero, List.set_cons_succ, List.getElem_toArray, List.getElem_cons_zero, List.getElem_cons_succ]
      refine wpAnyH_take (i := 15) (v := ?v15) rfl (by kernel_rfl) (by kernel_rfl) (by kernel_rfl) (fun _ _ _ h => h) (Or.inl ⟨by rfl, ?hy15⟩) (by assumption) ?rest15
      case hy15 => (intro w hSw; (try dsimp only at hSw); go_simp; (first | done | with_reducible rfl))
      simp only [Act.put, List.setIfInBounds_toArray, List.set_cons_zero, List.set_cons_succ, List.getElem_toArray, List.getElem_cons_zero, List.getElem_cons_succ]
      refine wpAnyH_take (i := 16) (v := ?v16) rfl (by kernel_rfl) (by kernel_rfl) (by kernel_rfl) (fun _ _ _ h => h) (Or.inl ⟨by rfl, ?hy16⟩) (by assumption) ?rest16
      case hy16 => (intro w hSw; (try dsimp only at hSw); go_simp; (first | done | with_reducible rfl))
      simp only [Act.put, List.setIfInBounds_toArray, List.set_cons_zero, List.set_cons_succ, List.getElem_toArray, List.getElem_cons_zero, List.getElem_cons_succ]
      refine wpAnyH_done (by kernel_rfl) ?_ _
      obtain ⟨_, _, h_B⟩ := hHeld
      have B3 := Lib.hid (B2.out.trans (h_B.mono B2.out.size))
      clear h_B hb1 HW
      go_wp2_with fail
      go_ret
      exact ⟨by rw [HG.out]; first | rfl | (simp only [← IntWalk.i64_left]; rfl), B3.out⟩
  · rw [show (decide (0 ≤ n0) && decide (n0 < ((ss.length - 1 : Nat) : Int))) = false by rw [← Bool.decide_and]; exact decide_eq_false hk] at hl
    have HG := Lib.hid (show guessV ss L n0 n1 n2 = -1 from if_neg hk)
    go_wp2_with fail
    refine hl.mono ?_
    rintro e w2 ⟨rfl, b2⟩
    have B2 := Lib.hid (B1.out.trans (b2.mono B1.out.size))
    clear hl b2 B1
    go_wp2_with fail
    go_ret
    exact ⟨by rw [HG.out]; rfl, B2.out⟩
theorem guess_range (ss : List Int) (hr : RightH ss) (L n0 n1 n2 : Int) : -9223372036854775808 ≤ guessV ss L n0 n1 n2 ∧ guessV ss L n0 n1 n2 ≤ 9223372036854775807 := by
  unfold guessV
  split
  · split
    · unfold wrap64; omega
    · unfold wrap64; omega
  · omega
/-- the name of the parameter with an index -/
def nameAt (ss : List Int) (i : Int) : ByteArray := nameP smallD (placeP ss i)
theorem smallD_len (z : Int) (h1 : z < 1048576) : (smallD z).length ≤ 20 := dec_len _ (by omega)
theorem nameAt_any (N b : Nat) (ss : List Int) (hr : RightH ss) (i : Int) (hi : -9223372036854775808 ≤ i ∧ i ≤ 9223372036854775807) (w : World) (h : ShapeAt N b w ss) (ht : Pow10 w) :
    Calls Tryd.prog 24 #[.pointer (some ⟨b, 0, none⟩), .int .i64 i] w fun e w' => e = .returned (.string (nameAt ss i)) ∧ Below w.heap.size w w' := by
  rcases (show (0 ≤ i ∧ i < stTo ss (ss.length - 1)) ∨ (i < 0 ∨ stTo ss (ss.length - 1) ≤ i) by omega) with hin | hout
  · obtain ⟨k, r, c, hp, _, hk0, hk1, hr0, hr1, hc0, hc1, _⟩ := lead_back hr i hin.1 hin.2
    refine name_any smallD N b ss hr i hi w h (fun _ z hz => ?_) ?_
    · rw [hp] at hz
      unfold numsP at hz
      split at hz
      · simp at hz
        rcases hz with rfl | rfl
        · exact says_dec _ (by omega) (by omega) w ht
        · exact says_dec _ (by omega) (by omega) w ht
      · rename_i hc
        dsimp only at hc
        simp at hz
        rcases hz with rfl | rfl | rfl
        · exact says_dec _ (by omega) (by omega) w ht
        · exact says_dec _ (by omega) (by omega) w ht
        · exact says_dec _ (by omega) (by omega) w ht
    · rw [hp]
      have l1 := smallD_len k hk1
      have l2 := smallD_len r hr1
      have l3 := smallD_len c hc1
      unfold numsP
      split
      · simp [strL, Lib.join, List.intercalate]; omega
      · simp [strL, Lib.join, List.intercalate]; omega
  · have hp := place_out hr i hout
    refine name_any smallD N b ss hr i hi w h (fun hk => ?_) ?_
    · rw [hp] at hk; cases hk
    · rw [hp]
      have l1 := smallD_len 0 (by decide)
      simp [numsP, strL, Lib.join, List.intercalate]; omega
/-- the index with a name, and whether there is one -/
def idxV (ss : List Int) (s : ByteArray) : Int × Bool := if s.toList ≠ [] ∧ (nameAt ss (guessN ss s)).toList = s.toList then (guessN ss s, true) else (0, false)
theorem index_any (N b : Nat) (ss : List Int) (hr : RightH ss) (s : ByteArray) (hs : s.size ≤ 1000) (w : World) (h : ShapeAt N b w ss) (ht : Pow10 w) :
    Calls Tryd.prog 25 #[.pointer (some ⟨b, 0, none⟩), .string s] w fun e w' => e = .returned (.tuple #[.int .i64 (idxV ss s).1, .bool (idxV ss s).2]) ∧ Below w.heap.size w w' := by
  have HS := Lib.hid (splitS_any s hs w)
  have H0 := Lib.hid h
  have HT := Lib.hid ht
  have HX := Lib.hid (show idxV ss s = if s.toList ≠ [] ∧ (nameAt ss (guessN ss s)).toList = s.toList then (guessN ss s, true) else (0, false) from rfl)
  have hgr : -9223372036854775808 ≤ guessN ss s ∧ guessN ss s ≤ 9223372036854775807 := guess_range ss hr _ _ _ _
  have HG : ∀ W, Below w.heap.size w W → Calls Tryd.prog 34 #[.pointer (some ⟨b, 0, none⟩), .int .i32 (splitN s).1, .agg #[.int .i64 ((splitN s).2 0), .int .i64 ((splitN s).2 1), .int .i64 ((splitN s).2 2)]] W fun e w' => e = .returned (.int .i64 (guessN ss s)) ∧ Below W.heap.size W w' := fun W hW => guess_any N b ss hr _ _ _ _ W (h.later hW)
  have HN := Lib.hid (fun W (hW : Below w.heap.size w W) => nameAt_any N b ss hr (guessN ss s) hgr W (h.later hW) (ht.later hW))
  clear h ht
  generalize guessN ss s = g at *
  generalize nameAt ss g = nm at *
  generalize (splitN s).1 = L at *
  generalize (splitN s).2 0 = n0 at *
  generalize (splitN s).2 1 = n1 at *
  generalize (splitN s).2 2 = n2 at *
  have HGG := Lib.hid HG
  clear HG
  go_enter Tryd.func25, Tryd.ntmps25
  go_wp2_with fail
  refine HS.out.mono ?_
  rintro e w1 ⟨rfl, b1⟩
  have B1 := Lib.hid b1
  clear HS b1
  go_wp2_with fail
  refine (HGG.out w1 B1.out).mono ?_
  rintro e w2 ⟨rfl, b2⟩
  have B2 := Lib.hid (B1.out.trans (b2.mono B1.out.size))
  clear b2 B1
  by_cases he : s.toList = []
  · have g1 : s.toList.isEmpty = true := by rw [he]; rfl
    rw [if_neg (fun x => x.1 he)] at HX
    go_wp2_with fail
    refine bodyPost_ret (v := .tuple #[.int .i64 0, .bool false]) ?_ rfl ⟨by rw [HX.out], B2.out⟩
    simp [results, Tryd.results25, go_sem]
  · have g1 : s.toList.isEmpty = false := by simpa using he
    by_cases hq : nm.toList = s.toList
    · rw [if_pos ⟨he, hq⟩] at HX
      have hqb : (nm.toList == s.toList) = true := by simpa using hq
      go_wp2_with fail
      refine (HN.out w2 B2.out).mono ?_
      rintro e w3 ⟨rfl, b3⟩
      have B3 := Lib.hid (B2.out.trans (b3.mono B2.out.size))
      clear b3 B2
      go_wp2_with fail
      refine bodyPost_ret (v := .tuple #[.int .i64 g, .bool true]) ?_ rfl ⟨by rw [HX.out], B3.out⟩
      simp [results, Tryd.results25, go_sem]
    · rw [if_neg (fun x => hq x.2)] at HX
      have hqb : (nm.toList == s.toList) = false := by simpa using hq
      go_wp2_with fail
      refine (HN.out w2 B2.out).mono ?_
      rintro e w3 ⟨rfl, b3⟩
      have B3 := Lib.hid (B2.out.trans (b3.mono B2.out.size))
      clear b3 B2
      go_wp2_with fail
      refine bodyPost_ret (v := .tuple #[.int .i64 0, .bool false]) ?_ rfl ⟨by rw [HX.out], B3.out⟩
      simp [results, Tryd.results25, go_sem]
end Go.Proofs.YtdnaildhcnekfaaDoor
