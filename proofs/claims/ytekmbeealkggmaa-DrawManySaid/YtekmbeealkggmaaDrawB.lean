/- The reference's many draws. -/
import Derived.Test.YtekmbeealkggmaaDrawK
namespace Go.Proofs.Ytekmbeealkggmaa
open Go.RowKit
theorem nextR_true {zs : List Int} {k k2 : Nat} {n x : Int} (h : nextR zs k n = (x, true, k2)) : 1 ≤ n ∧ k < zs.length ∧ k2 = k + 1 ∧ x = (zs[k]?.getD 0) % n := by
  unfold nextR at h
  split at h
  · cases h
  · cases h
    exact ⟨by omega, by omega, rfl, rfl⟩
theorem nextR_false {zs : List Int} {k k2 : Nat} {n x : Int} (h : nextR zs k n = (x, false, k2)) : n < 1 ∨ zs.length ≤ k := by
  unfold nextR at h
  split at h
  · assumption
  · cases h
theorem manyB_false {zs bs : List Int} {k j : Nat} (hj : j < bs.length) (h : bs[j]?.getD 0 < 1 ∨ zs.length ≤ k + j) : manyB zs k bs = false := by
  unfold manyB
  rcases h with h | h
  · rw [show (bs.all fun n => decide (1 ≤ n)) = false by rw [List.all_eq_false]; exact ⟨bs[j], List.getElem_mem hj, by rw [List.getElem?_eq_getElem hj] at h; simp at h; simp; omega⟩]
    simp
  · simp; omega
def RefManyDone (v : Value) (zs : List Int) (k : Nat) (bs : List Int) (w : World) (e : Ending) (w' : World) : Prop :=
  if manyB zs k bs then ∃ o, e = .returned (.tuple #[RefSt v (k + bs.length), o, .bool true]) ∧ w'.ownsRow w.heap.size 3 1 o bs.length ((manyL zs k bs).map (Value.int .i64)) ∧ Below w.heap.size w w'
  else e = .returned (.tuple #[RefSt v k, .slice none 0 0, .bool false]) ∧ Below w.heap.size w w'
set_option maxHeartbeats 1000000 in
theorem refMany_any (v u : Value) (zs : List Int) (hz : ∀ z ∈ zs, 0 ≤ z ∧ z < 18446744073709551616) (k : Nat) (hk : k ≤ zs.length) (hm : zs.length ≤ 1048576) (bs : List Int) (hbs : ∀ n ∈ bs, -9223372036854775808 ≤ n ∧ n ≤ 9223372036854775807) (hl : bs.length ≤ 1048576) (w : World) (hv : IntsAt .u64 w.heap.size w v zs) (hu : IntsAt .i64 w.heap.size w u bs) :
    Calls Try.prog 14 #[RefSt v k, u] w (RefManyDone v zs k bs w) := by
  obtain ⟨a, len, cap, rfl⟩ : ∃ a len cap, v = .slice a len cap := by
    rcases hv.form with ⟨e, _⟩ | ⟨b, off, cap, e, _⟩ <;> exact ⟨_, _, _, e⟩
  obtain rfl := hv.len
  obtain ⟨a', len', cap', rfl⟩ : ∃ a len cap, u = .slice a len cap := by
    rcases hu.form with ⟨e, _⟩ | ⟨b, off, cap, e, _⟩ <;> exact ⟨_, _, _, e⟩
  obtain rfl := hu.len
  unfold RefSt
  go_enter Try.func14, Try.ntmps14
  go_wp2_with fail
  have HU := Lib.hid hu
  have HV := Lib.hid hv
  have HZ := Lib.hid hz
  have HB := Lib.hid hbs
  have bA := (((Below.refl w.heap.size w).alloc (Nat.le_refl _) (.cells #[.slice a zs.length cap, .int .i64 k] 28)).alloc (by simp <;> omega) (.cells #[.slice none 0 0, .int .i64 0] 28)).alloc (by simp <;> omega) (.cells #[.slice a zs.length cap, .int .i64 k] 28)
  have s01 := cells_two w (.slice a zs.length cap) (.int .i64 k) 28
  have q01 := cells_two (w.alloc (.cells #[.slice a zs.length cap, .int .i64 k] 28)) (.slice none 0 0) (.int .i64 0) 28
  have t01 := cells_two ((w.alloc (.cells #[.slice a zs.length cap, .int .i64 k] 28)).alloc (.cells #[.slice none 0 0, .int .i64 0] 28)) (.slice a zs.length cap) (.int .i64 k) 28
  have qf := World.frozen?_alloc_new (w.alloc (.cells #[.slice a zs.length cap, .int .i64 k] 28)) #[.slice none 0 0, .int .i64 0] 28
  have tf := World.frozen?_alloc_new ((w.alloc (.cells #[.slice a zs.length cap, .int .i64 k] 28)).alloc (.cells #[.slice none 0 0, .int .i64 0] 28)) #[.slice a zs.length cap, .int .i64 k] 28
  simp only [World.size_alloc] at q01 t01 qf tf
  have A1 := (Below.refl (w.heap.size + 1) (w.alloc (.cells #[.slice a zs.length cap, .int .i64 k] 28))).alloc (by simp <;> omega) (.cells #[.slice none 0 0, .int .i64 0] 28)
  have A2 := (Below.refl (w.heap.size + 1 + 1) ((w.alloc (.cells #[.slice a zs.length cap, .int .i64 k] 28)).alloc (.cells #[.slice none 0 0, .int .i64 0] 28))).alloc (by simp <;> omega) (.cells #[.slice a zs.length cap, .int .i64 k] 28)
  have s0 := (A2.cell (p := ⟨w.heap.size, 0, none⟩) (by simp <;> omega)).trans ((A1.cell (p := ⟨w.heap.size, 0, none⟩) (by simp <;> omega)).trans s01.1)
  have s1 := (A2.cell (p := ⟨w.heap.size, 1, none⟩) (by simp <;> omega)).trans ((A1.cell (p := ⟨w.heap.size, 1, none⟩) (by simp <;> omega)).trans s01.2)
  have q0 := (A2.cell (p := ⟨w.heap.size + 1, 0, none⟩) (by simp <;> omega)).trans q01.1
  have q1 := (A2.cell (p := ⟨w.heap.size + 1, 1, none⟩) (by simp <;> omega)).trans q01.2
  have qf0 := (A2.frozen (p := ⟨w.heap.size + 1, 0, none⟩) (by simp <;> omega)).trans (qf 0)
  have qf1 := (A2.frozen (p := ⟨w.heap.size + 1, 1, none⟩) (by simp <;> omega)).trans (qf 1)
  have RA := Lib.hid (And.intro s0 (And.intro s1 (And.intro q0 (And.intro q1 (And.intro qf0 (And.intro qf1 (And.intro t01.1 (And.intro t01.2 (And.intro (tf 0) (And.intro (tf 1) bA))))))))))
  have hsz : w.heap.size + 3 ≤ (((w.alloc (.cells #[.slice a zs.length cap, .int .i64 k] 28)).alloc (.cells #[.slice none 0 0, .int .i64 0] 28)).alloc (.cells #[.slice a zs.length cap, .int .i64 k] 28)).heap.size := by simp
  clear bA s01 q01 t01 qf tf A1 A2 s0 s1 q0 q1 qf0 qf1 hu hv hz hbs
  generalize (((w.alloc (.cells #[.slice a zs.length cap, .int .i64 k] 28)).alloc (.cells #[.slice none 0 0, .int .i64 0] 28)).alloc (.cells #[.slice a zs.length cap, .int .i64 k] 28)) = W0 at *
  generalize hN : w.heap.size = N at *
  go_loopw [8, 9] (fun o i wr => ∃ j : Nat, j ≤ bs.length ∧ i = .int .i64 j ∧ k + j ≤ zs.length ∧ (∀ n ∈ bs.take j, 1 ≤ n) ∧ wr.ownsRow (N + 3) 3 1 o j ((manyL zs k (bs.take j)).map (Value.int .i64)) ∧ N + 3 ≤ wr.heap.size ∧
    wr.cell? ⟨N, 0, none⟩ = some (.slice a zs.length cap) ∧ wr.cell? ⟨N, 1, none⟩ = some (.int .i64 k) ∧ wr.cell? ⟨N + 1, 0, none⟩ = some (.slice none 0 0) ∧ wr.cell? ⟨N + 1, 1, none⟩ = some (.int .i64 0) ∧ wr.frozen? ⟨N + 1, 0, none⟩ = false ∧ wr.frozen? ⟨N + 1, 1, none⟩ = false ∧
    wr.cell? ⟨N + 1 + 1, 0, none⟩ = some (.slice a zs.length cap) ∧ wr.cell? ⟨N + 1 + 1, 1, none⟩ = some (.int .i64 ((k + j : Nat) : Int)) ∧ wr.frozen? ⟨N + 1 + 1, 0, none⟩ = false ∧ wr.frozen? ⟨N + 1 + 1, 1, none⟩ = false ∧ Below N w wr) (fun _ i _ => bs.length - (intOf i).toNat)
  case atStart => exact ⟨0, Nat.zero_le _, rfl, hk, by simp, World.ownsRow_nil _ _ _ _, hsz, RA.out⟩
  case round =>
    obtain ⟨j, hj, rfl, hkj, hall, hO, hs3, s0, s1, q0, q1, qf0, qf1, t0, t1, tf0, tf1, hB⟩ := hrel
    by_cases hlt : j < bs.length
    · rcases HU.out.form with ⟨_, e0⟩ | ⟨g, off, c', e0, hcap, hg, hcs⟩
      · rw [e0] at hlt; simp at hlt
      cases e0
      have c := (hB.cell (p := ⟨g, off + j, none⟩) hg).trans (hcs j hlt)
      have hn := HB.out (bs[j]?.getD 0) (by rw [List.getElem?_eq_getElem hlt]; exact List.getElem_mem hlt)
      have hmem : bs[j]?.getD 0 ∈ bs := by rw [List.getElem?_eq_getElem hlt]; exact List.getElem_mem hlt
      have ht : bs.take (j + 1) = bs.take j ++ [bs[j]?.getD 0] := by rw [List.take_add_one, List.getElem?_eq_getElem hlt]; rfl
      have HM := Lib.hid (manyL_take zs k bs j hlt)
      have HT := Lib.hid ht
      have HO := Lib.hid hO
      have HA := Lib.hid hall
      clear hcs ht hO hall
      have QN := fun W (h : Below N w W) => refNext_any (.slice a zs.length cap) zs HZ.out (k + j) hm (bs[j]?.getD 0) hn W ((HV.out.below h).grow (by have := h.size; omega))
      simp only [RefSt, Int.natCast_add] at QN
      have HB0 := Lib.hid hB
      clear hB
      have i0 : (0 : Int) ≤ (j : Int) := by omega
      have i1 : (j : Int) < (bs.length : Int) := by omega
      generalize hNB : bs[j]?.getD 0 = n at *
      have HNB := Lib.hid hNB
      clear hNB
      generalize hR : nextR zs (k + j) n = R at *
      obtain ⟨x, okb, k2⟩ := R
      simp only at QN
      have HQ := Lib.hid QN
      have HR := Lib.hid hR
      clear hR
      clear QN
      go_wp2_with fail
      refine wp_region_held_drew (S := fun w' => w'.cell? ⟨N + 1 + 1, 0, none⟩ = some (.slice a zs.length cap) ∧ w'.cell? ⟨N + 1 + 1, 1, none⟩ = some (.int .i64 ((k + j : Nat) : Int)) ∧ w'.cell? ⟨g, off + j, none⟩ = some (.int .i64 n) ∧ Below wr.heap.size wr w') (by kernel_rfl) ?_ (fun hHeld => ?_)
      · exact ⟨t0, t1, c, (Below.refl _ _).drew⟩
      refine wpAnyH_take (i := 0) (v := ?v1) rfl (by kernel_rfl) (by kernel_rfl) (by kernel_rfl) (fun _ _ _ h => h) (Or.inl ⟨by rfl, ?hy1⟩) (by assumption) ?rest1
      case hy1 => (intro w hSw; (try dsimp only at hSw); go_simp; (first | done | with_reducible rfl))
      simp only [Act.put, List.setIfInBounds_toArray, List.set_cons_zero, List.set_cons_succ, List.getElem_toArray, List.getElem_cons_zero, List.getElem_cons_succ]
      refine wpAnyH_take (i := 1) (v := ?v2) rfl (by kernel_rfl) (by kernel_rfl) (by kernel_rfl) (fun _ _ _ h => h) (Or.inl ⟨by rfl, ?hy2⟩) (by assumption) ?rest2
      case hy2 => (intro w hSw; (try dsimp only at hSw); go_simp; (first | done | with_reducible rfl))
      simp only [Act.put, List.setIfInBounds_toArray, List.set_cons_zero, List.set_cons_succ, List.getElem_toArray, List.getElem_cons_zero, List.getElem_cons_succ]
      refine wpAnyH_take (i := 2) (v := ?v3) rfl (by kernel_rfl) (by kernel_rfl) (by kernel_rfl) (fun _ _ _ h => h) (Or.inl ⟨by rfl, ?hy3⟩) (by assumption) ?rest3
      case hy3 => (intro w hSw; (try dsimp only at hSw); go_simp; (first | done | with_reducible rfl))
      simp only [Act.put, List.setIfInBounds_toArray, List.set_cons_zero, List.set_cons_succ, List.getElem_toArray, List.getElem_cons_zero, List.getElem_cons_succ]
      refine wpAnyH_take (i := 3) (v := ?v4) rfl (by kernel_rfl) (by kernel_rfl) (by kernel_rfl) (fun _ _ _ h => h) (Or.inl ⟨by rfl, ?hy4⟩) (by assumption) ?rest4
      case hy4 => (intro w hSw; (try dsimp only at hSw); go_simp; (first | done | with_reducible rfl))
      simp only [Act.put, List.setIfInBounds_toArray, List.set_cons_zero, List.set_cons_succ, List.getElem_toArray, List.getElem_cons_zero, List.getElem_cons_succ]
      refine wpAnyH_take (i := 4) (v := ?v5) rfl (by kernel_rfl) (by kernel_rfl) (by kernel_rfl) (fun _ _ _ h => h) (Or.inl ⟨by rfl, ?hy5⟩) (by assumption) ?rest5
      case hy5 => (intro w hSw; (try dsimp only at hSw); go_simp; (first | done | with_reducible rfl))
      simp only [Act.put, List.setIfInBounds_toArray, List.set_cons_zero, List.set_cons_succ, List.getElem_toArray, List.getElem_cons_zero, List.getElem_cons_succ]
      refine wpAnyH_ready (rs := [5, 10]) (by kernel_rfl) (by simp) ?_
      refine AllReadyH.cons rfl (fun K hK => ?_) ?_
      · try simp only [Act.put, List.setIfInBounds_toArray, List.set_cons_zero, List.set_cons_succ, List.getElem_toArray, List.getElem_cons_zero, List.getElem_cons_succ]
        go_simp
        go_at_call 11
        obtain ⟨k0, k1, kc, k4⟩ := hHeld
        refine (HQ.out _ (HB0.out.trans (k4.mono (by omega)))).mono ?_
        rintro e w5 ⟨rfl, h5⟩
        go_wp2_with fail
        refine hK.out _ _ ⟨cell_step h5 k0, cell_step h5 k1, cell_step h5 kc, below_step k4 h5⟩ (fun hHeld => ?_)
        clear hK K
        try simp only [Act.put, List.setIfInBounds_toArray, List.set_cons_zero, List.set_cons_succ, List.getElem_toArray, List.getElem_cons_zero, List.getElem_cons_succ]
        refine wpAnyH_take (i := 6) (v := ?v6) rfl (by kernel_rfl) (by kernel_rfl) (by kernel_rfl) (fun _ _ _ h => h) (Or.inl ⟨by rfl, ?hy6⟩) (by assumption) ?rest6
        case hy6 => (intro w hSw; (try dsimp only at hSw); go_simp; (first | done | with_reducible rfl))
        simp only [Act.put, List.setIfInBounds_toArray, List.set_cons_zero, List.set_cons_succ, List.getElem_toArray, List.getElem_cons_zero, List.getElem_cons_succ]
        refine wpAnyH_take (i := 7) (v := ?v7) rfl (by kernel_rfl) (by kernel_rfl) (by kernel_rfl) (fun _ _ _ h => h) (Or.inl ⟨by rfl, ?hy7⟩) (by assumption) ?rest7
        case hy7 => (intro w hSw; (try dsimp only at hSw); go_simp; (first | done | with_reducible rfl))
        simp only [Act.put, List.setIfInBounds_toArray, List.set_cons_zero, List.set_cons_succ, List.getElem_toArray, List.getElem_cons_zero, List.getElem_cons_succ]
        refine wpAnyH_take (i := 8) (v := ?v8) rfl (by kernel_rfl) (by kernel_rfl) (by kernel_rfl) (fun _ _ _ h => h) (Or.inl ⟨by rfl, ?hy8⟩) (by assumption) ?rest8
        case hy8 => (intro w hSw; (try dsimp only at hSw); go_simp; (first | done | with_reducible rfl))
        simp only [Act.put, List.setIfInBounds_toArray, List.set_cons_zero, List.set_cons_succ, List.getElem_toArray, List.getElem_cons_zero, List.getElem_cons_succ]
        refine wpAnyH_take (i := 9) (v := ?v9) rfl (by kernel_rfl) (by kernel_rfl) (by kernel_rfl) (fun _ _ _ h => h) (Or.inl ⟨by rfl, ?hy9⟩) (by assumption) ?rest9
        case hy9 => (intro w hSw; (try dsimp only at hSw); go_simp; (first | done | with_reducible rfl))
        simp only [Act.put, List.setIfInBounds_toArray, List.set_cons_zero, List.set_cons_succ, List.getElem_toArray, List.getElem_cons_zero, List.getElem_cons_succ]
        refine wpAnyH_ready (rs := [10]) (by kernel_rfl) (by simp) ?_
        refine AllReadyH.cons rfl (fun K hK => ?_) AllReadyH.nil
        simp only [List.setIfInBounds_toArray, List.set_cons_zero, List.set_cons_succ, List.getElem_toArray, List.getElem_cons_zero, List.getElem_cons_succ]
        go_simp
        refine hK.out _ _ ?hs1 (fun hHeld => ?_)
        case hs1 =>
          have al := (Below.refl w5.heap.size w5).alloc (Nat.le_refl _) (.cells #[.slice none 0 0, .int .i64 0] 28)
          obtain ⟨k0, k1, kc, k4⟩ := hHeld
          exact ⟨cell_step al k0, cell_step al k1, cell_step al kc, below_step k4 al⟩
        clear hK K
        try simp only [Act.put, List.setIfInBounds_toArray, List.set_cons_zero, List.set_cons_succ, List.getElem_toArray, List.getElem_cons_zero, List.getElem_cons_succ]
        refine wpAnyH_ready (rs := [11]) (by kernel_rfl) (by simp) ?_
        refine AllReadyH.cons rfl (fun K hK => ?_) AllReadyH.nil
        simp only [List.setIfInBounds_toArray, List.set_cons_zero, List.set_cons_succ, List.getElem_toArray, List.getElem_cons_zero, List.getElem_cons_succ]
        go_simp
        have al := (Below.refl w5.heap.size w5).alloc (Nat.le_refl _) (.cells #[.slice a zs.length cap, .int .i64 k2] 28)
        have hU := cells_two w5 (.slice a zs.length cap) (.int .i64 k2) 28
        have fin : ∀ W', W' = w5.alloc (.cells #[.slice a zs.length cap, .int .i64 k2] 28) → _ := fun W' h => h
        refine hK.out _ _ ⟨cell_step al (cell_step h5 (cell_step k4 t0)), cell_step al (cell_step h5 (cell_step k4 t1)), cell_step al (cell_step h5 (cell_step k4 c)), below_step (below_step k4 h5) al⟩ (fun hHeld => ?_)
        clear hK K
        try simp only [Act.put, List.setIfInBounds_toArray, List.set_cons_zero, List.set_cons_succ, List.getElem_toArray, List.getElem_cons_zero, List.getElem_cons_succ]
        refine wpAnyH_take (i := 12) (v := ?v10) rfl (by kernel_rfl) (by kernel_rfl) (by kernel_rfl) (fun _ _ _ h => h) (Or.inl ⟨by rfl, ?hy10⟩) (by assumption) ?rest10
        case hy10 => (intro w hSw; (try dsimp only at hSw); go_simp; (first | done | with_reducible rfl))
        simp only [Act.put, List.setIfInBounds_toArray, List.set_cons_zero, List.set_cons_succ, List.getElem_toArray, List.getElem_cons_zero, List.getElem_cons_succ]
        refine wpAnyH_take (i := 13) (v := ?v11) rfl (by kernel_rfl) (by kernel_rfl) (by kernel_rfl) (fun _ _ _ h => h) (Or.inl ⟨by rfl, ?hy11⟩) (by assumption) ?rest11
        case hy11 => (intro w hSw; (try dsimp only at hSw); go_simp; (first | done | with_reducible rfl))
        simp only [Act.put, List.setIfInBounds_toArray, List.set_cons_zero, List.set_cons_succ, List.getElem_toArray, List.getElem_cons_zero, List.getElem_cons_succ]
        refine wpAnyH_done (by kernel_rfl) ?_ _
        have hB6 := below_step (below_step k4 h5) al
        obtain ⟨u0, u1⟩ := hU
        have hUs : wr.heap.size ≤ w5.heap.size := (below_step k4 h5).size
        clear k0 k1 kc k4 h5 al hHeld fin
        generalize w5.alloc (.cells #[.slice a zs.length cap, .int .i64 k2] 28) = W6 at *
        generalize w5.heap.size = U at *
        rcases okb with _ | _
        · have hF : manyB zs k bs = false := manyB_false hlt (by rw [HNB.out]; exact nextR_false HR.out)
          have HFF := Lib.hid hF
          clear hF
          have s0' := (hB6.cell (p := ⟨N, 0, none⟩) (show N < _ by omega)).trans s0
          have s1' := (hB6.cell (p := ⟨N, 1, none⟩) (show N < _ by omega)).trans s1
          have q0' := (hB6.cell (p := ⟨N + 1, 0, none⟩) (show N + 1 < _ by omega)).trans q0
          have q1' := (hB6.cell (p := ⟨N + 1, 1, none⟩) (show N + 1 < _ by omega)).trans q1
          have qf0' := (hB6.frozen (p := ⟨N + 1, 0, none⟩) (show N + 1 < _ by omega)).trans qf0
          have qf1' := (hB6.frozen (p := ⟨N + 1, 1, none⟩) (show N + 1 < _ by omega)).trans qf1
          have HB6 := Lib.hid (HB0.out.trans (hB6.mono (by omega)))
          clear hB6 s0 s1 q0 q1 qf0 qf1 t0 t1 tf0 tf1 u0 u1
          go_wp2_with fail
          (try simp only [Exit.inBlock, Exit.then])
          have ST := stored2 (.slice a zs.length cap) (.int .i64 (k : Int)) q0' q1' qf0' qf1'
          refine bodyPost_ret (v := .tuple #[.agg #[.slice a zs.length cap, .int .i64 k], .slice none 0 0, .bool false]) (by simp [results, Try.results14, ST.1, ST.2.1, go_sem]) rfl ?_
          unfold RefManyDone
          rw [HFF.out]
          refine ⟨rfl, ?_⟩
          rw [hN]
          exact below_set (below_set HB6.out (by omega)) (by omega)
        · obtain ⟨n1, kj, e2, e3⟩ := nextR_true HR.out
          subst e2
          have HE3 := Lib.hid e3
          have HKJ := Lib.hid kj
          clear e3 kj
          have t0' := (hB6.cell (p := ⟨N + 1 + 1, 0, none⟩) (show N + 1 + 1 < _ by omega)).trans t0
          have t1' := (hB6.cell (p := ⟨N + 1 + 1, 1, none⟩) (show N + 1 + 1 < _ by omega)).trans t1
          have tf0' := (hB6.frozen (p := ⟨N + 1 + 1, 0, none⟩) (show N + 1 + 1 < _ by omega)).trans tf0
          have tf1' := (hB6.frozen (p := ⟨N + 1 + 1, 1, none⟩) (show N + 1 + 1 < _ by omega)).trans tf1
          have HB6 := Lib.hid hB6
          have HO6 := Lib.hid (row_kept HO.out (grown_below hB6 (some N)) (by omega))
          have hz6 := hB6.size
          clear hB6
          have ST := stored2 (.slice a zs.length cap) (.int .i64 ((k : Int) + (j : Int) + 1)) t0' t1' tf0' tf1'
          have HO7 := Lib.hid (row_kept HO6.out (grown_trans (grown_set _ (N + 1 + 1) 0 (.slice a zs.length cap)) (grown_set _ (N + 1 + 1) 1 (.int .i64 ((k : Int) + (j : Int) + 1)))) (by omega))
          have HST := Lib.hid ST
          have HN1 := Lib.hid n1
          have hz7 : N + 3 ≤ ((W6.setCell ⟨N + 1 + 1, 0, none⟩ (.slice a zs.length cap)).setCell ⟨N + 1 + 1, 1, none⟩ (.int .i64 ((k : Int) + (j : Int) + 1))).heap.size := by simp [World.setCell]; omega
          have HS := Lib.hid (And.intro s0 (And.intro s1 (And.intro q0 (And.intro q1 (And.intro qf0 qf1)))))
          clear ST s0 s1 q0 q1 qf0 qf1 t0 t1 tf0 tf1
          go_wp2_with (at_builtin; refine append_at (g := W6.heap.size) elemI rfl _ _ rfl rfl rfl HO7.out rfl ?_ ?_ ?_ ?_ ?_ ?_; (simp [World.setCell]); (simp [Value.oneCell']); (unfold maxLen; omega); omega; (exact hz7); intro v' w' ho' hg'; have hg2 := Lib.hid hg'; clear hg'; have HO' := Lib.hid ho'; clear ho')
          obtain ⟨s0, s1, q0, q1, qf0, qf1⟩ := HS.out
          obtain ⟨t0, t1, tf0, tf1, xb⟩ := HST.out
          have hz7' := hz7
          have bw := (Below.refl (N + 3) _).grown hg2.out hz7 (fun k e => (HO7.out.lt k e).1)
          have hb67 := (HB6.out.mono (show N + 1 + 1 ≤ _ by omega)).trans xb
          have hbw := hb67.trans (bw.mono (by omega))
          have hsz' := Nat.le_trans hz7 bw.size
          refine ⟨⟨j + 1, by omega, by rw [Int.natCast_add]; rfl, by have := HKJ.out; omega, ?_, ?_, hsz', (hbw.cell (p := ⟨N, 0, none⟩) (show N < _ by omega)).trans s0, (hbw.cell (p := ⟨N, 1, none⟩) (show N < _ by omega)).trans s1, (hbw.cell (p := ⟨N + 1, 0, none⟩) (show N + 1 < _ by omega)).trans q0, (hbw.cell (p := ⟨N + 1, 1, none⟩) (show N + 1 < _ by omega)).trans q1, (hbw.frozen (p := ⟨N + 1, 0, none⟩) (show N + 1 < _ by omega)).trans qf0, (hbw.frozen (p := ⟨N + 1, 1, none⟩) (show N + 1 < _ by omega)).trans qf1,
            (bw.cell (p := ⟨N + 1 + 1, 0, none⟩) (show N + 1 + 1 < _ by omega)).trans t0, ?_, (bw.frozen (p := ⟨N + 1 + 1, 0, none⟩) (show N + 1 + 1 < _ by omega)).trans tf0, (bw.frozen (p := ⟨N + 1 + 1, 1, none⟩) (show N + 1 + 1 < _ by omega)).trans tf1, HB0.out.trans (hbw.mono (by omega))⟩, ?_⟩
          · intro y hy
            rw [HT.out, List.mem_append] at hy
            rcases hy with hy | hy
            · exact HA.out y hy
            · simp only [List.mem_singleton] at hy; rw [hy]; exact HN1.out
          · rw [HM.out, List.map_append]
            have := HO'.out
            rw [HE3.out] at this
            exact this
          · rw [(bw.cell (p := ⟨N + 1 + 1, 1, none⟩) (show N + 1 + 1 < _ by omega)), t1]
            simp [Int.natCast_add, Int.add_assoc]
          · show bs.length - ((j : Int) + 1).toNat < bs.length - ((j : Int)).toNat
            omega
      · refine AllReadyH.cons rfl (fun K hK => ?_) AllReadyH.nil
        try simp only [Act.put, List.setIfInBounds_toArray, List.set_cons_zero, List.set_cons_succ, List.getElem_toArray, List.getElem_cons_zero, List.getElem_cons_succ]
        go_simp
        have al := ((Below.refl wr.heap.size wr).alloc (Nat.le_refl _) (.cells #[.slice none 0 0, .int .i64 0] 28)).drew
        have hU := cells_two wr (.slice none 0 0) (.int .i64 0) 28
        have fU := World.frozen?_alloc_new wr #[.slice none 0 0, .int .i64 0] 28
        have hz1 : wr.heap.size < (wr.alloc (.cells #[.slice none 0 0, .int .i64 0] 28)).drew.heap.size := by simp
        replace hU : (wr.alloc (.cells #[.slice none 0 0, .int .i64 0] 28)).drew.cell? ⟨wr.heap.size, 0, none⟩ = some (.slice none 0 0) ∧ (wr.alloc (.cells #[.slice none 0 0, .int .i64 0] 28)).drew.cell? ⟨wr.heap.size, 1, none⟩ = some (.int .i64 0) := hU
        replace fU : ∀ o, (wr.alloc (.cells #[.slice none 0 0, .int .i64 0] 28)).drew.frozen? ⟨wr.heap.size, o, none⟩ = false := fU
        refine hK.out _ _ ⟨cell_step al t0, cell_step al t1, cell_step al c, al⟩ (fun hHeld => ?_)
        clear hK K
        try simp only [Act.put, List.setIfInBounds_toArray, List.set_cons_zero, List.set_cons_succ, List.getElem_toArray, List.getElem_cons_zero, List.getElem_cons_succ]
        generalize (wr.alloc (.cells #[.slice none 0 0, .int .i64 0] 28)).drew = W1 at *
        refine wpAnyH_ready (rs := [5]) (by kernel_rfl) (by simp) ?_
        refine AllReadyH.cons rfl (fun K hK => ?_) AllReadyH.nil
        simp only [List.setIfInBounds_toArray, List.set_cons_zero, List.set_cons_succ, List.getElem_toArray, List.getElem_cons_zero, List.getElem_cons_succ]
        go_simp
        go_at_call 11
        obtain ⟨k0, k1, kc, k4⟩ := hHeld
        refine (HQ.out _ (HB0.out.trans (k4.mono (by omega)))).mono ?_
        rintro e w5 ⟨rfl, h5⟩
        go_wp2_with fail
        refine hK.out _ _ ⟨cell_step h5 k0, cell_step h5 k1, cell_step h5 kc, below_step k4 h5⟩ (fun hHeld => ?_)
        clear hK K
        try simp only [Act.put, List.setIfInBounds_toArray, List.set_cons_zero, List.set_cons_succ, List.getElem_toArray, List.getElem_cons_zero, List.getElem_cons_succ]
        refine wpAnyH_take (i := 6) (v := ?v12) rfl (by kernel_rfl) (by kernel_rfl) (by kernel_rfl) (fun _ _ _ h => h) (Or.inl ⟨by rfl, ?hy12⟩) (by assumption) ?rest12
        case hy12 => (intro w hSw; (try dsimp only at hSw); go_simp; (first | done | with_reducible rfl))
        simp only [Act.put, List.setIfInBounds_toArray, List.set_cons_zero, List.set_cons_succ, List.getElem_toArray, List.getElem_cons_zero, List.getElem_cons_succ]
        refine wpAnyH_take (i := 7) (v := ?v13) rfl (by kernel_rfl) (by kernel_rfl) (by kernel_rfl) (fun _ _ _ h => h) (Or.inl ⟨by rfl, ?hy13⟩) (by assumption) ?rest13
        case hy13 => (intro w hSw; (try dsimp only at hSw); go_simp; (first | done | with_reducible rfl))
        simp only [Act.put, List.setIfInBounds_toArray, List.set_cons_zero, List.set_cons_succ, List.getElem_toArray, List.getElem_cons_zero, List.getElem_cons_succ]
        refine wpAnyH_take (i := 8) (v := ?v14) rfl (by kernel_rfl) (by kernel_rfl) (by kernel_rfl) (fun _ _ _ h => h) (Or.inl ⟨by rfl, ?hy14⟩) (by assumption) ?rest14
        case hy14 => (intro w hSw; (try dsimp only at hSw); go_simp; (first | done | with_reducible rfl))
        simp only [Act.put, List.setIfInBounds_toArray, List.set_cons_zero, List.set_cons_succ, List.getElem_toArray, List.getElem_cons_zero, List.getElem_cons_succ]
        refine wpAnyH_take (i := 9) (v := ?v15) rfl (by kernel_rfl) (by kernel_rfl) (by kernel_rfl) (fun _ _ _ h => h) (Or.inl ⟨by rfl, ?hy15⟩) (by assumption) ?rest15
        case hy15 => (intro w hSw; (try dsimp only at hSw); go_simp; (first | done | with_reducible rfl))
        simp only [Act.put, List.setIfInBounds_toArray, List.set_cons_zero, List.set_cons_succ, List.getElem_toArray, List.getElem_cons_zero, List.getElem_cons_succ]
        refine wpAnyH_ready (rs := [11]) (by kernel_rfl) (by simp) ?_
        refine AllReadyH.cons rfl (fun K hK => ?_) AllReadyH.nil
        simp only [List.setIfInBounds_toArray, List.set_cons_zero, List.set_cons_succ, List.getElem_toArray, List.getElem_cons_zero, List.getElem_cons_succ]
        have x0 := cell_step h5 hU.1
        have x1 := cell_step h5 hU.2
        have y0 := (h5.frozen (p := ⟨wr.heap.size, 0, none⟩) hz1).trans (fU 0)
        have y1 := (h5.frozen (p := ⟨wr.heap.size, 1, none⟩) hz1).trans (fU 1)
        have ST := stored2 (.slice a zs.length cap) (.int .i64 k2) x0 x1 y0 y1
        go_simp
        have hB6 := (below_step k4 h5).trans ST.2.2.2.2
        refine hK.out _ _ ⟨(hB6.cell (p := ⟨N + 1 + 1, 0, none⟩) (show N + 1 + 1 < _ by omega)).trans t0, (hB6.cell (p := ⟨N + 1 + 1, 1, none⟩) (show N + 1 + 1 < _ by omega)).trans t1, cell_step hB6 c, hB6⟩ (fun hHeld => ?_)
        clear hK K
        try simp only [Act.put, List.setIfInBounds_toArray, List.set_cons_zero, List.set_cons_succ, List.getElem_toArray, List.getElem_cons_zero, List.getElem_cons_succ]
        refine wpAnyH_take (i := 12) (v := ?v16) rfl (by kernel_rfl) (by kernel_rfl) (by kernel_rfl) (fun _ _ _ h => h) (Or.inl ⟨by rfl, ?hy16⟩) (by assumption) ?rest16
        case hy16 => (intro w hSw; (try dsimp only at hSw); go_simp; (first | done | with_reducible rfl))
        simp only [Act.put, List.setIfInBounds_toArray, List.set_cons_zero, List.set_cons_succ, List.getElem_toArray, List.getElem_cons_zero, List.getElem_cons_succ]
        refine wpAnyH_take (i := 13) (v := ?v17) rfl (by kernel_rfl) (by kernel_rfl) (by kernel_rfl) (fun _ _ _ h => h) (Or.inl ⟨by rfl, ?hy17⟩) (by assumption) ?rest17
        case hy17 => (intro w hSw; (try dsimp only at hSw); go_simp; (first | done | with_reducible rfl))
        simp only [Act.put, List.setIfInBounds_toArray, List.set_cons_zero, List.set_cons_succ, List.getElem_toArray, List.getElem_cons_zero, List.getElem_cons_succ]
        refine wpAnyH_done (by kernel_rfl) ?_ _
        obtain ⟨u0, u1, _, _, _⟩ := ST
        have hUs : wr.heap.size ≤ wr.heap.size := Nat.le_refl _
        clear k0 k1 kc k4 h5 al hHeld x0 x1 y0 y1 fU hU hz1
        generalize (w5.setCell ⟨wr.heap.size, 0, none⟩ (.slice a zs.length cap)).setCell ⟨wr.heap.size, 1, none⟩ (.int .i64 k2) = W6 at *
        rcases okb with _ | _
        · have hF : manyB zs k bs = false := manyB_false hlt (by rw [HNB.out]; exact nextR_false HR.out)
          have HFF := Lib.hid hF
          clear hF
          have s0' := (hB6.cell (p := ⟨N, 0, none⟩) (show N < _ by omega)).trans s0
          have s1' := (hB6.cell (p := ⟨N, 1, none⟩) (show N < _ by omega)).trans s1
          have q0' := (hB6.cell (p := ⟨N + 1, 0, none⟩) (show N + 1 < _ by omega)).trans q0
          have q1' := (hB6.cell (p := ⟨N + 1, 1, none⟩) (show N + 1 < _ by omega)).trans q1
          have qf0' := (hB6.frozen (p := ⟨N + 1, 0, none⟩) (show N + 1 < _ by omega)).trans qf0
          have qf1' := (hB6.frozen (p := ⟨N + 1, 1, none⟩) (show N + 1 < _ by omega)).trans qf1
          have HB6 := Lib.hid (HB0.out.trans (hB6.mono (by omega)))
          clear hB6 s0 s1 q0 q1 qf0 qf1 t0 t1 tf0 tf1 u0 u1
          go_wp2_with fail
          (try simp only [Exit.inBlock, Exit.then])
          have ST := stored2 (.slice a zs.length cap) (.int .i64 (k : Int)) q0' q1' qf0' qf1'
          refine bodyPost_ret (v := .tuple #[.agg #[.slice a zs.length cap, .int .i64 k], .slice none 0 0, .bool false]) (by simp [results, Try.results14, ST.1, ST.2.1, go_sem]) rfl ?_
          unfold RefManyDone
          rw [HFF.out]
          refine ⟨rfl, ?_⟩
          rw [hN]
          exact below_set (below_set HB6.out (by omega)) (by omega)
        · obtain ⟨n1, kj, e2, e3⟩ := nextR_true HR.out
          subst e2
          have HE3 := Lib.hid e3
          have HKJ := Lib.hid kj
          clear e3 kj
          have t0' := (hB6.cell (p := ⟨N + 1 + 1, 0, none⟩) (show N + 1 + 1 < _ by omega)).trans t0
          have t1' := (hB6.cell (p := ⟨N + 1 + 1, 1, none⟩) (show N + 1 + 1 < _ by omega)).trans t1
          have tf0' := (hB6.frozen (p := ⟨N + 1 + 1, 0, none⟩) (show N + 1 + 1 < _ by omega)).trans tf0
          have tf1' := (hB6.frozen (p := ⟨N + 1 + 1, 1, none⟩) (show N + 1 + 1 < _ by omega)).trans tf1
          have HB6 := Lib.hid hB6
          have HO6 := Lib.hid (row_kept HO.out (grown_below hB6 (some N)) (by omega))
          have hz6 := hB6.size
          clear hB6
          have ST := stored2 (.slice a zs.length cap) (.int .i64 ((k : Int) + (j : Int) + 1)) t0' t1' tf0' tf1'
          have HO7 := Lib.hid (row_kept HO6.out (grown_trans (grown_set _ (N + 1 + 1) 0 (.slice a zs.length cap)) (grown_set _ (N + 1 + 1) 1 (.int .i64 ((k : Int) + (j : Int) + 1)))) (by omega))
          have HST := Lib.hid ST
          have HN1 := Lib.hid n1
          have hz7 : N + 3 ≤ ((W6.setCell ⟨N + 1 + 1, 0, none⟩ (.slice a zs.length cap)).setCell ⟨N + 1 + 1, 1, none⟩ (.int .i64 ((k : Int) + (j : Int) + 1))).heap.size := by simp [World.setCell]; omega
          have HS := Lib.hid (And.intro s0 (And.intro s1 (And.intro q0 (And.intro q1 (And.intro qf0 qf1)))))
          clear ST s0 s1 q0 q1 qf0 qf1 t0 t1 tf0 tf1
          go_wp2_with (at_builtin; refine append_at (g := W6.heap.size) elemI rfl _ _ rfl rfl rfl HO7.out rfl ?_ ?_ ?_ ?_ ?_ ?_; (simp [World.setCell]); (simp [Value.oneCell']); (unfold maxLen; omega); omega; (exact hz7); intro v' w' ho' hg'; have hg2 := Lib.hid hg'; clear hg'; have HO' := Lib.hid ho'; clear ho')
          obtain ⟨s0, s1, q0, q1, qf0, qf1⟩ := HS.out
          obtain ⟨t0, t1, tf0, tf1, xb⟩ := HST.out
          have hz7' := hz7
          have bw := (Below.refl (N + 3) _).grown hg2.out hz7 (fun k e => (HO7.out.lt k e).1)
          have hb67 := (HB6.out.mono (show N + 1 + 1 ≤ _ by omega)).trans xb
          have hbw := hb67.trans (bw.mono (by omega))
          have hsz' := Nat.le_trans hz7 bw.size
          refine ⟨⟨j + 1, by omega, by rw [Int.natCast_add]; rfl, by have := HKJ.out; omega, ?_, ?_, hsz', (hbw.cell (p := ⟨N, 0, none⟩) (show N < _ by omega)).trans s0, (hbw.cell (p := ⟨N, 1, none⟩) (show N < _ by omega)).trans s1, (hbw.cell (p := ⟨N + 1, 0, none⟩) (show N + 1 < _ by omega)).trans q0, (hbw.cell (p := ⟨N + 1, 1, none⟩) (show N + 1 < _ by omega)).trans q1, (hbw.frozen (p := ⟨N + 1, 0, none⟩) (show N + 1 < _ by omega)).trans qf0, (hbw.frozen (p := ⟨N + 1, 1, none⟩) (show N + 1 < _ by omega)).trans qf1,
            (bw.cell (p := ⟨N + 1 + 1, 0, none⟩) (show N + 1 + 1 < _ by omega)).trans t0, ?_, (bw.frozen (p := ⟨N + 1 + 1, 0, none⟩) (show N + 1 + 1 < _ by omega)).trans tf0, (bw.frozen (p := ⟨N + 1 + 1, 1, none⟩) (show N + 1 + 1 < _ by omega)).trans tf1, HB0.out.trans (hbw.mono (by omega))⟩, ?_⟩
          · intro y hy
            rw [HT.out, List.mem_append] at hy
            rcases hy with hy | hy
            · exact HA.out y hy
            · simp only [List.mem_singleton] at hy; rw [hy]; exact HN1.out
          · rw [HM.out, List.map_append]
            have := HO'.out
            rw [HE3.out] at this
            exact this
          · rw [(bw.cell (p := ⟨N + 1 + 1, 1, none⟩) (show N + 1 + 1 < _ by omega)), t1]
            simp [Int.natCast_add, Int.add_assoc]
          · show bs.length - ((j : Int) + 1).toNat < bs.length - ((j : Int)).toNat
            omega
    · have hje : j = bs.length := by omega
      subst hje
      rw [List.take_length] at hall hO
      have hF : manyB zs k bs = true := by
        unfold manyB
        simp only [Bool.and_eq_true, decide_eq_true_eq, List.all_eq_true]
        exact ⟨by omega, hall⟩
      have HO := Lib.hid hO
      have HFF := Lib.hid hF
      clear hall hO hF
      go_wp2_with fail
      (try simp only [Exit.inBlock, Exit.then])
      have x0 : (wr.setCell ⟨N + 1, 0, none⟩ (.slice a zs.length cap)).cell? ⟨N + 1, 0, none⟩ = some (.slice a zs.length cap) := World.cell?_setCell_same _ _ _ q0
      have x1 : ((wr.setCell ⟨N + 1, 0, none⟩ (.slice a zs.length cap)).setCell ⟨N + 1, 1, none⟩ (.int .i64 ((k : Int) + (bs.length : Int)))).cell? ⟨N + 1, 1, none⟩ = some (.int .i64 ((k : Int) + (bs.length : Int))) := by
        refine World.cell?_setCell_same _ _ _ (u := .int .i64 0) ?_
        rw [World.cell?_setCell_other _ _ _ _ (by simp)]; exact q1
      refine bodyPost_ret (v := .tuple #[.agg #[.slice a zs.length cap, .int .i64 ((k + bs.length : Nat) : Int)], u8, .bool true]) (by simp [results, Try.results14, x0, x1, go_sem]) rfl ?_
      unfold RefManyDone
      rw [HFF.out]
      refine ⟨_, rfl, ?_, ?_⟩
      · rw [hN]
        exact owns_mono (by omega) (row_kept HO.out (grown_trans (grown_set _ (N + 1) 0 _) (grown_set _ (N + 1) 1 _)) (by omega))
      · rw [hN]
        exact below_set (below_set hB (by omega)) (by omega)
end Go.Proofs.Ytekmbeealkggmaa
