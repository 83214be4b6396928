/- The sizes of an even division, and where an index lies in it. -/
import Derived.Test.YtpdeckmplkmieaaPartN
set_option linter.unusedSimpArgs false
namespace Go.Proofs.Ytpdeckmplkmieaa
open Go.RowKit
theorem findR_pre (x : Int) (pre : List (Int × Int)) (r : Int × Int) (post : List (Int × Int)) (k : Nat) (h : ∀ q ∈ pre, q.2 ≤ x) (hr : r.1 ≤ x ∧ x < r.2) : findR x (pre ++ r :: post) k = k + pre.length := by
  induction pre generalizing k with
  | nil => simp [findR, hr]
  | cons q pre ih =>
    have h1 := h q (by simp)
    simp only [List.cons_append, findR, List.length_cons]
    rw [if_neg (by omega), ih _ (fun y hy => h y (by simp [hy]))]
    omega
theorem findR_none (x : Int) (rs : List (Int × Int)) (k : Nat) (h : ∀ q ∈ rs, ¬ (q.1 ≤ x ∧ x < q.2)) : findR x rs k = -1 := by
  induction rs generalizing k with
  | nil => rfl
  | cons q rs ih => simp only [findR]; rw [if_neg (h q (by simp)), ih _ (fun y hy => h y (by simp [hy]))]
theorem bnd_le (n k : Int) (hn : 0 ≤ n) (hk : 0 < k) (i j : Nat) (h : i ≤ j) : bnd n k i ≤ bnd n k j := by
  induction j with
  | zero => rw [Nat.le_zero.1 h]; omega
  | succ j ih =>
    by_cases e : i = j + 1
    · rw [e]; omega
    · have := ih (by omega); have := bnd_mono n k j hn hk; omega
theorem even_get (n k : Int) (hn : 0 ≤ n) (hk : 0 < k) (i : Nat) (hi : i < (evenR n k).length) : (evenR n k)[i] = (bnd n k i, bnd n k (i + 1)) := by
  simp only [evenR_in n k hn hk, List.getElem_map, List.getElem_range]
theorem even_split (n k : Int) (hn : 0 ≤ n) (hk : 0 < k) (i : Nat) (hi : i < k.toNat) : ∃ post, evenR n k = evenTo n k i ++ (bnd n k i, bnd n k (i + 1)) :: post := by
  refine ⟨(evenR n k).drop (i + 1), ?_⟩
  have hl := evenR_length n k hn hk
  have h1 : (evenR n k).take i = evenTo n k i := by
    rw [evenR_in n k hn hk]; unfold evenTo
    rw [← List.map_take, List.take_range, Nat.min_eq_left (by omega)]
  rw [← h1, ← even_get n k hn hk i (by omega), ← List.drop_eq_getElem_cons (by omega), List.take_append_drop]
theorem even_find (n k : Int) (hn : 0 ≤ n) (hk : 0 < k) (i : Nat) (hi : i < k.toNat) (x : Int) (h1 : bnd n k i ≤ x) (h2 : x < bnd n k (i + 1)) : findR x (evenR n k) 0 = i := by
  obtain ⟨post, e⟩ := even_split n k hn hk i hi
  rw [e, findR_pre x _ _ post 0 ?_ ⟨h1, h2⟩, evenTo_length]
  · simp
  · intro q hq
    simp only [evenTo, List.mem_map, List.mem_range] at hq
    obtain ⟨j, hj, rfl⟩ := hq
    have := bnd_le n k hn hk (j + 1) i (by omega)
    show bnd n k (j + 1) ≤ x
    omega
theorem even_none (n k : Int) (hn : 0 ≤ n) (hk : 0 < k) (x : Int) (h : x < 0 ∨ n ≤ x) : findR x (evenR n k) 0 = -1 := by
  refine findR_none x _ 0 ?_
  intro q hq
  rw [evenR_in n k hn hk] at hq
  simp only [List.mem_map, List.mem_range] at hq
  obtain ⟨j, hj, rfl⟩ := hq
  have b0 := bnd_range n k j hn hk (by omega)
  have b1 := bnd_range n k (j + 1) hn hk (by omega)
  show ¬ (bnd n k j ≤ x ∧ x < bnd n k (j + 1))
  omega
/-- the size of a range of an even division -/
theorem even_size (n k : Int) (hn : 0 ≤ n) (hk : 0 < k) (i : Nat) : sizeR (bnd n k i, bnd n k (i + 1)) = n / k + if (i : Int) < n % k then 1 else 0 := by
  have h1 := bnd_succ n k i
  have h2 := Int.ediv_nonneg hn (Int.le_of_lt hk)
  unfold sizeR
  simp only
  rw [h1]
  split <;> omega
theorem cell_step {b c : World} {a : Addr} {v : Value} (k : Below b.heap.size b c) (h : b.cell? a = some v) : c.cell? a = some v := (k.cell (World.block_lt_of_cell? _ _ h)).trans h
theorem cells_two (w : World) (x y : Value) (e : TypeId) : (w.alloc (.cells #[x, y] e)).cell? ⟨w.heap.size, 0, none⟩ = some x ∧ (w.alloc (.cells #[x, y] e)).cell? ⟨w.heap.size, 1, none⟩ = some y := by
  have h1 : (w.alloc (.cells #[x, y] e)).heap[w.heap.size]? = some (.cells #[x, y] e) := (MapKept.heap_alloc w _).1
  constructor
  · simp only [World.cell?, h1]; simp
  · simp only [World.cell?, h1]; simp
set_option maxHeartbeats 4000000 in
theorem walk_sizes (n k : Int) (hn : 0 ≤ n ∧ n ≤ 65535) (hk : 0 ≤ k ∧ k ≤ 255) (w : World) :
    Calls Try.prog 7 #[.int .u16 n, .int .u8 k] w fun e w' => e = .returned (.bool true) ∧ Below w.heap.size w w' := by
  have a0 : 0 ≤ n % 500 ∧ n % 500 < 500 := by omega
  go_enter Try.func7, Try.ntmps7
  go_wp2_with fail
  generalize n % 500 = A at *
  obtain ⟨m, hm⟩ : ∃ m : Nat, 1 + k = m := ⟨(1 + k).toNat, by omega⟩
  rw [hm]
  have m0 : 1 ≤ m ∧ m ≤ 256 := by omega
  clear hm hn hk
  have b0 : (0 : Int) < m := by omega
  have hlen := evenR_length A m a0.1 b0
  have G := even_get A m a0.1 b0
  have FN := even_none A m a0.1 b0
  have FF := even_find A m a0.1 b0
  have SZ := even_size A m a0.1 b0
  have BR := bnd_range A m
  have CH := Lib.hid (chain_even A m a0.1 b0)
  have Q0 := Int.ediv_nonneg a0.1 (Int.le_of_lt b0)
  have Q1 := Int.ediv_le_self (m : Int) a0.1
  rw [show ((m : Nat) : Int).toNat = m from rfl] at hlen
  refine (even_any A m (by omega) (by omega) (by omega) (by omega) _).mono ?_
  rintro e w1 ⟨v, rfl, ho1, h1⟩
  have V1 := Lib.hid (RangesAt.new ho1)
  clear ho1
  generalize evenR A m = rs at *
  rcases V1.out.form with ⟨_, e0⟩ | ⟨b, off, cap, rfl, _, hb, hcs⟩
  · rw [e0] at hlen; simp at hlen; omega
  have HC := Lib.hid hcs
  have HG := Lib.hid G
  have HFN := Lib.hid FN
  have HFF := Lib.hid FF
  have HSZ := Lib.hid SZ
  have HBR := Lib.hid BR
  have a1 := a0.1
  have a2 := a0.2
  have m1 := m0.1
  have m2 := m0.2
  clear hcs G FN FF SZ BR a0 m0 b0
  have HL := Lib.hid hlen
  rw [hlen]
  have V1' := Lib.hid V1.out
  rw [hlen] at V1'
  clear hlen
  go_wp2
  go_loopw [8, 9, 25] (fun _ _ i wr => ∃ j : Nat, j ≤ m ∧ i = .int .i64 j ∧ Below w1.heap.size w1 wr) (fun _ _ i _ => m - (intOf i).toNat)
  case atStart => exact ⟨0, Nat.zero_le _, rfl, Below.refl _ _⟩
  case round =>
    obtain ⟨j, hj, rfl, hB⟩ := hrel
    by_cases hlt : j < m
    · have hjl : j < rs.length := by have := HL.out; omega
      have c0 := (hB.cell (p := ⟨b, off + j * 2, none⟩) hb).trans (HC.out j hjl).1
      have c1 := (hB.cell (p := ⟨b, off + j * 2 + 1, none⟩) hb).trans (HC.out j hjl).2
      have br0 := HBR.out j a1 (by omega) (by omega)
      have br1 := HBR.out (j + 1) a1 (by omega) (by omega)
      have sz := HSZ.out j
      have ff := HFF.out j (by omega)
      rw [HG.out j hjl] at c0 c1
      simp only at c0 c1
      have SP : ∃ plo phi p : Int, (0 < j → wr.cell? ⟨b, off + (j - 1) * 2, none⟩ = some (.int .i64 plo) ∧ wr.cell? ⟨b, off + (j - 1) * 2 + 1, none⟩ = some (.int .i64 phi)) ∧ (∀ W, Calls Try.prog 21 #[.agg #[.int .i64 plo, .int .i64 phi]] W fun e w' => e = .returned (.int .i64 p) ∧ Below W.heap.size W w') ∧ (0 < j → sizeR (bnd A m j, bnd A m (j + 1)) ≤ p) := by
        by_cases hj0 : 0 < j
        · have hjm : j - 1 < rs.length := by omega
          have b0 := HBR.out (j - 1) a1 (by omega) (by omega)
          refine ⟨bnd A m (j - 1), bnd A m (j - 1 + 1), sizeR (bnd A m (j - 1), bnd A m (j - 1 + 1)), fun _ => ?_, fun W => size_any _ _ (by omega) (by omega) (by rw [show j - 1 + 1 = j by omega]; omega) (by rw [show j - 1 + 1 = j by omega]; omega) W, fun _ => ?_⟩
          · have d0 := (hB.cell (p := ⟨b, off + (j - 1) * 2, none⟩) hb).trans (HC.out (j - 1) hjm).1
            have d1 := (hB.cell (p := ⟨b, off + (j - 1) * 2 + 1, none⟩) hb).trans (HC.out (j - 1) hjm).2
            rw [HG.out (j - 1) hjm] at d0 d1
            exact ⟨d0, d1⟩
          · rw [sz, HSZ.out (j - 1)]
            split <;> split <;> omega
        · exact ⟨0, 0, 0, fun h => absurd h hj0, fun W => size_any 0 0 (by omega) (by omega) (by omega) (by omega) W, fun h => absurd h hj0⟩
      obtain ⟨plo, phi, p, pc, P, hp⟩ := SP
      have S := fun W => size_any (bnd A m j) (bnd A m (j + 1)) (by omega) (by omega) (by omega) (by omega) W
      have hs2 : sizeR (bnd A m j, bnd A m (j + 1)) = A / m ∨ sizeR (bnd A m j, bnd A m (j + 1)) = A / m + 1 := by rw [sz]; split <;> omega
      have hs3 : 0 < sizeR (bnd A m j, bnd A m (j + 1)) → bnd A m j < bnd A m (j + 1) := by unfold sizeR; intro h; simp only at h; omega
      have O1 : 0 < sizeR (bnd A m j, bnd A m (j + 1)) → ∀ W, Below w1.heap.size w1 W → Calls Try.prog 18 #[.int .i64 (bnd A m j), .slice (some ⟨b, off, none⟩) m cap] W fun e w' => e = .returned (.int .i64 j) ∧ Below W.heap.size W w' := by
        intro h W hW
        have := of_any (bnd A m j) _ rs (by have := HL.out; omega) W (V1.out.later hW)
        rw [ff _ (by omega) (hs3 h), HL.out] at this
        exact this
      have O2 : 0 < sizeR (bnd A m j, bnd A m (j + 1)) → ∀ W, Below w1.heap.size w1 W → Calls Try.prog 18 #[.int .i64 (bnd A m (j + 1) - 1), .slice (some ⟨b, off, none⟩) m cap] W fun e w' => e = .returned (.int .i64 j) ∧ Below W.heap.size W w' := by
        intro h W hW
        have := hs3 h
        have := of_any (bnd A m (j + 1) - 1) _ rs (by have := HL.out; omega) W (V1.out.later hW)
        rw [ff _ (by omega) (by omega), HL.out] at this
        exact this
      clear sz ff
      generalize sizeR (bnd A m j, bnd A m (j + 1)) = s at *
      generalize bnd A m j = lo at *
      generalize bnd A m (j + 1) = hi at *
      have HO1 := Lib.hid O1
      have HO2 := Lib.hid O2
      have HS := Lib.hid S
      have HP := Lib.hid P
      have Hpc := Lib.hid pc
      have Hhp := Lib.hid hp
      have Hs3 := Lib.hid hs3
      clear O1 O2 S P pc hp hs3
      have wq : IntKind.i64.wrap (A.tdiv m) = A / m := IntWalk.i64_quo A m (by omega)
      have wq1 : IntKind.i64.wrap (A / m + 1) = A / m + 1 := IntWalk.i64_in _ (by omega)
      have wz1 : ((m : Int) == 0) = false := by simp; omega
      have wz2 : ¬ (m : Int) = 0 := by omega
      have wz3 : ¬ m = 0 := by omega
      go_wp2
      have r01 := cells_two wr (.int .i64 lo) (.int .i64 hi) 39
      have hB0 := hB.alloc hB.size (.cells #[.int .i64 lo, .int .i64 hi] 39)
      have pc0 : 0 < j → (wr.alloc (.cells #[.int .i64 lo, .int .i64 hi] 39)).cell? ⟨b, off + (j - 1) * 2, none⟩ = some (.int .i64 plo) ∧ (wr.alloc (.cells #[.int .i64 lo, .int .i64 hi] 39)).cell? ⟨b, off + (j - 1) * 2 + 1, none⟩ = some (.int .i64 phi) := fun h => ⟨cell_step ((Below.refl _ _).alloc (Nat.le_refl _) _) (Hpc.out h).1, cell_step ((Below.refl _ _).alloc (Nat.le_refl _) _) (Hpc.out h).2⟩
      generalize wr.heap.size = B at *
      generalize wr.alloc (.cells #[.int .i64 lo, .int .i64 hi] 39) = W0 at *
      by_cases hj0 : 0 < j
      · obtain ⟨p0, p1⟩ := pc0 hj0
        obtain ⟨r0, r1⟩ := r01
        clear pc0
        have f3 : decide (p < s) = false := by have := Hhp.out hj0; simp; omega
        have f4 : decide ((0 : Int) < (j : Int)) = true := by simp; omega
        have wj : IntKind.i64.wrap ((j : Int) - 1) = ((j - 1 : Nat) : Int) := by rw [IntWalk.i64_in _ (by omega)]; omega
        rcases hs2 with hs2 | hs2
        · have f1 : (s != A / m) = false := by simpa using hs2
          have i0 : (0 : Int) ≤ ((j - 1 : Nat) : Int) := by omega
          have i1 : ((j - 1 : Nat) : Int) < (m : Int) := by omega
          have i2 : (((j - 1 : Nat) : Int)).toNat = j - 1 := rfl
          have Hs2 := Lib.hid hs2
          clear hs2
          refine wp_region_held_drew (S := fun w' => w'.cell? ⟨B, 0, none⟩ = some (.int .i64 lo) ∧ w'.cell? ⟨B, 1, none⟩ = some (.int .i64 hi) ∧ w'.cell? ⟨b, off + (j - 1) * 2, none⟩ = some (.int .i64 plo) ∧ w'.cell? ⟨b, off + (j - 1) * 2 + 1, none⟩ = some (.int .i64 phi) ∧ Below W0.heap.size W0 w') (by kernel_rfl) ?_ (fun hHeld => ?_)
          · (refine ⟨?_, ?_, ?_, ?_, ?_⟩ <;> (first | assumption | exact (Below.refl _ _).drew | exact r0 | exact r1 | exact p0 | exact p1))
          refine wpAnyH_take (i := 0) (v := ?v28) rfl (by kernel_rfl) (by kernel_rfl) (by kernel_rfl) (fun _ _ _ h => h) (Or.inl ⟨by rfl, ?hy28⟩) (by assumption) ?rest28
          case hy28 => (intro w hSw; (try dsimp only at hSw); go_simp; (first | done | with_reducible rfl))
          simp only [Act.put, List.setIfInBounds_toArray, List.set_cons_zero, List.set_cons_succ, List.getElem_toArray, List.getElem_cons_zero, List.getElem_cons_succ]
          refine wpAnyH_take (i := 2) (v := ?v29) rfl (by kernel_rfl) (by kernel_rfl) (by kernel_rfl) (fun _ _ _ h => h) (Or.inl ⟨by rfl, ?hy29⟩) (by assumption) ?rest29
          case hy29 => (intro w hSw; (try dsimp only at hSw); go_simp; (first | done | with_reducible rfl))
          simp only [Act.put, List.setIfInBounds_toArray, List.set_cons_zero, List.set_cons_succ, List.getElem_toArray, List.getElem_cons_zero, List.getElem_cons_succ]
          refine wpAnyH_take (i := 3) (v := ?v30) rfl (by kernel_rfl) (by kernel_rfl) (by kernel_rfl) (fun _ _ _ h => h) (Or.inl ⟨by rfl, ?hy30⟩) (by assumption) ?rest30
          case hy30 => (intro w hSw; (try dsimp only at hSw); go_simp; (first | done | with_reducible rfl))
          simp only [Act.put, List.setIfInBounds_toArray, List.set_cons_zero, List.set_cons_succ, List.getElem_toArray, List.getElem_cons_zero, List.getElem_cons_succ]
          refine wpAnyH_take (i := 4) (v := ?v31) rfl (by kernel_rfl) (by kernel_rfl) (by kernel_rfl) (fun _ _ _ h => h) (Or.inl ⟨by rfl, ?hy31⟩) (by assumption) ?rest31
          case hy31 => (intro w hSw; (try dsimp only at hSw); go_simp; (first | done | with_reducible rfl))
          simp only [Act.put, List.setIfInBounds_toArray, List.set_cons_zero, List.set_cons_succ, List.getElem_toArray, List.getElem_cons_zero, List.getElem_cons_succ]
          refine wpAnyH_ready (rs := [1]) (by kernel_rfl) (by simp) ?_
          refine AllReadyH.cons rfl (fun K hK => ?_) AllReadyH.nil
          simp only [List.setIfInBounds_toArray, List.set_cons_zero, List.set_cons_succ, List.getElem_toArray, List.getElem_cons_zero, List.getElem_cons_succ]
          go_simp
          go_at_call 21
          refine (HS.out _).mono ?_
          rintro e v1 ⟨rfl, hv1⟩
          go_wp2_with fail
          obtain ⟨k0, k1, k2, k3, k4⟩ := hHeld
          refine hK.out _ _ ⟨cell_step hv1 k0, cell_step hv1 k1, cell_step hv1 k2, cell_step hv1 k3, below_step k4 hv1⟩ (fun hHeld => ?_)
          clear k0 k1 k2 k3 k4 hK K
          clear hv1
          try simp only [Act.put, List.setIfInBounds_toArray, List.set_cons_zero, List.set_cons_succ, List.getElem_toArray, List.getElem_cons_zero, List.getElem_cons_succ]
          refine wpAnyH_take (i := 5) (v := ?v32) rfl (by kernel_rfl) (by kernel_rfl) (by kernel_rfl) (fun _ _ _ h => h) (Or.inl ⟨by rfl, ?hy32⟩) (by assumption) ?rest32
          case hy32 => (intro w hSw; (try dsimp only at hSw); go_simp; (first | done | with_reducible rfl))
          simp only [Act.put, List.setIfInBounds_toArray, List.set_cons_zero, List.set_cons_succ, List.getElem_toArray, List.getElem_cons_zero, List.getElem_cons_succ]
          refine wpAnyH_take (i := 6) (v := ?v33) rfl (by kernel_rfl) (by kernel_rfl) (by kernel_rfl) (fun _ _ _ h => h) (Or.inl ⟨by rfl, ?hy33⟩) (by assumption) ?rest33
          case hy33 => (intro w hSw; (try dsimp only at hSw); go_simp; (first | done | with_reducible rfl))
          simp only [Act.put, List.setIfInBounds_toArray, List.set_cons_zero, List.set_cons_succ, List.getElem_toArray, List.getElem_cons_zero, List.getElem_cons_succ]
          refine wpAnyH_take (i := 7) (v := undef) rfl (by kernel_rfl) (by kernel_rfl) (by kernel_rfl) (fun _ _ _ h => h) (Or.inr ⟨by rfl, rfl⟩) (by assumption) ?rest34
          simp only [Act.put, List.setIfInBounds_toArray, List.set_cons_zero, List.set_cons_succ, List.getElem_toArray, List.getElem_cons_zero, List.getElem_cons_succ]
          refine wpAnyH_take (i := 9) (v := undef) rfl (by kernel_rfl) (by kernel_rfl) (by kernel_rfl) (fun _ _ _ h => h) (Or.inr ⟨by rfl, rfl⟩) (by assumption) ?rest35
          simp only [Act.put, List.setIfInBounds_toArray, List.set_cons_zero, List.set_cons_succ, List.getElem_toArray, List.getElem_cons_zero, List.getElem_cons_succ]
          refine wpAnyH_take (i := 10) (v := undef) rfl (by kernel_rfl) (by kernel_rfl) (by kernel_rfl) (fun _ _ _ h => h) (Or.inr ⟨by rfl, rfl⟩) (by assumption) ?rest36
          simp only [Act.put, List.setIfInBounds_toArray, List.set_cons_zero, List.set_cons_succ, List.getElem_toArray, List.getElem_cons_zero, List.getElem_cons_succ]
          refine wpAnyH_take (i := 11) (v := undef) rfl (by kernel_rfl) (by kernel_rfl) (by kernel_rfl) (fun _ _ _ h => h) (Or.inr ⟨by rfl, rfl⟩) (by assumption) ?rest37
          simp only [Act.put, List.setIfInBounds_toArray, List.set_cons_zero, List.set_cons_succ, List.getElem_toArray, List.getElem_cons_zero, List.getElem_cons_succ]
          refine wpAnyH_take (i := 12) (v := undef) rfl (by kernel_rfl) (by kernel_rfl) (by kernel_rfl) (fun _ _ _ h => h) (Or.inr ⟨by rfl, rfl⟩) (by assumption) ?rest38
          simp only [Act.put, List.setIfInBounds_toArray, List.set_cons_zero, List.set_cons_succ, List.getElem_toArray, List.getElem_cons_zero, List.getElem_cons_succ]
          refine wpAnyH_take (i := 8) (v := undef) rfl (by kernel_rfl) (by kernel_rfl) (by kernel_rfl) (fun _ _ _ h => h) (Or.inr ⟨by rfl, rfl⟩) (by assumption) ?rest39
          simp only [Act.put, List.setIfInBounds_toArray, List.set_cons_zero, List.set_cons_succ, List.getElem_toArray, List.getElem_cons_zero, List.getElem_cons_succ]
          refine wpAnyH_take (i := 13) (v := undef) rfl (by kernel_rfl) (by kernel_rfl) (by kernel_rfl) (fun _ _ _ h => h) (Or.inr ⟨by rfl, rfl⟩) (by assumption) ?rest40
          simp only [Act.put, List.setIfInBounds_toArray, List.set_cons_zero, List.set_cons_succ, List.getElem_toArray, List.getElem_cons_zero, List.getElem_cons_succ]
          refine wpAnyH_take (i := 14) (v := ?v41) rfl (by kernel_rfl) (by kernel_rfl) (by kernel_rfl) (fun _ _ _ h => h) (Or.inl ⟨by rfl, ?hy41⟩) (by assumption) ?rest41
          case hy41 => (intro w hSw; (try dsimp only at hSw); go_simp; (first | done | with_reducible rfl))
          simp only [Act.put, List.setIfInBounds_toArray, List.set_cons_zero, List.set_cons_succ, List.getElem_toArray, List.getElem_cons_zero, List.getElem_cons_succ]
          refine wpAnyH_take (i := 15) (v := ?v42) rfl (by kernel_rfl) (by kernel_rfl) (by kernel_rfl) (fun _ _ _ h => h) (Or.inl ⟨by rfl, ?hy42⟩) (by assumption) ?rest42
          case hy42 => (intro w hSw; (try dsimp only at hSw); go_simp; (first | done | with_reducible rfl))
          simp only [Act.put, List.setIfInBounds_toArray, List.set_cons_zero, List.set_cons_succ, List.getElem_toArray, List.getElem_cons_zero, List.getElem_cons_succ]
          refine wpAnyH_take (i := 16) (v := ?v43) rfl (by kernel_rfl) (by kernel_rfl) (by kernel_rfl) (fun _ _ _ h => h) (Or.inl ⟨by rfl, ?hy43⟩) (by assumption) ?rest43
          case hy43 => (intro w hSw; (try dsimp only at hSw); go_simp; (first | done | with_reducible rfl))
          simp only [Act.put, List.setIfInBounds_toArray, List.set_cons_zero, List.set_cons_succ, List.getElem_toArray, List.getElem_cons_zero, List.getElem_cons_succ]
          refine wpAnyH_take (i := 17) (v := ?v44) rfl (by kernel_rfl) (by kernel_rfl) (by kernel_rfl) (fun _ _ _ h => h) (Or.inl ⟨by rfl, ?hy44⟩) (by assumption) ?rest44
          case hy44 => (intro w hSw; (try dsimp only at hSw); go_simp; (first | done | with_reducible rfl))
          simp only [Act.put, List.setIfInBounds_toArray, List.set_cons_zero, List.set_cons_succ, List.getElem_toArray, List.getElem_cons_zero, List.getElem_cons_succ]
          refine wpAnyH_take (i := 18) (v := ?v45) rfl (by kernel_rfl) (by kernel_rfl) (by kernel_rfl) (fun _ _ _ h => h) (Or.inl ⟨by rfl, ?hy45⟩) (by assumption) ?rest45
          case hy45 => (intro w hSw; (try dsimp only at hSw); go_simp; (first | done | with_reducible rfl))
          simp only [Act.put, List.setIfInBounds_toArray, List.set_cons_zero, List.set_cons_succ, List.getElem_toArray, List.getElem_cons_zero, List.getElem_cons_succ]
          refine wpAnyH_take (i := 19) (v := ?v46) rfl (by kernel_rfl) (by kernel_rfl) (by kernel_rfl) (fun _ _ _ h => h) (Or.inl ⟨by rfl, ?hy46⟩) (by assumption) ?rest46
          case hy46 => (intro w hSw; (try dsimp only at hSw); go_simp; (first | done | with_reducible rfl))
          simp only [Act.put, List.setIfInBounds_toArray, List.set_cons_zero, List.set_cons_succ, List.getElem_toArray, List.getElem_cons_zero, List.getElem_cons_succ]
          refine wpAnyH_take (i := 21) (v := ?v47) rfl (by kernel_rfl) (by kernel_rfl) (by kernel_rfl) (fun _ _ _ h => h) (Or.inl ⟨by rfl, ?hy47⟩) (by assumption) ?rest47
          case hy47 => (intro w hSw; (try dsimp only at hSw); go_simp; (first | done | with_reducible rfl))
          simp only [Act.put, List.setIfInBounds_toArray, List.set_cons_zero, List.set_cons_succ, List.getElem_toArray, List.getElem_cons_zero, List.getElem_cons_succ]
          refine wpAnyH_take (i := 22) (v := ?v48) rfl (by kernel_rfl) (by kernel_rfl) (by kernel_rfl) (fun _ _ _ h => h) (Or.inl ⟨by rfl, ?hy48⟩) (by assumption) ?rest48
          case hy48 => (intro w hSw; (try dsimp only at hSw); go_simp; (first | done | with_reducible rfl))
          simp only [Act.put, List.setIfInBounds_toArray, List.set_cons_zero, List.set_cons_succ, List.getElem_toArray, List.getElem_cons_zero, List.getElem_cons_succ]
          refine wpAnyH_take (i := 23) (v := ?v49) rfl (by kernel_rfl) (by kernel_rfl) (by kernel_rfl) (fun _ _ _ h => h) (Or.inl ⟨by rfl, ?hy49⟩) (by assumption) ?rest49
          case hy49 => (intro w hSw; (try dsimp only at hSw); go_simp; (first | done | with_reducible rfl))
          simp only [Act.put, List.setIfInBounds_toArray, List.set_cons_zero, List.set_cons_succ, List.getElem_toArray, List.getElem_cons_zero, List.getElem_cons_succ]
          refine wpAnyH_take (i := 24) (v := ?v50) rfl (by kernel_rfl) (by kernel_rfl) (by kernel_rfl) (fun _ _ _ h => h) (Or.inl ⟨by rfl, ?hy50⟩) (by assumption) ?rest50
          case hy50 => (intro w hSw; (try dsimp only at hSw); go_simp; (first | done | with_reducible rfl))
          simp only [Act.put, List.setIfInBounds_toArray, List.set_cons_zero, List.set_cons_succ, List.getElem_toArray, List.getElem_cons_zero, List.getElem_cons_succ]
          refine wpAnyH_take (i := 25) (v := ?v51) rfl (by kernel_rfl) (by kernel_rfl) (by kernel_rfl) (fun _ _ _ h => h) (Or.inl ⟨by rfl, ?hy51⟩) (by assumption) ?rest51
          case hy51 => (intro w hSw; (try dsimp only at hSw); go_simp; (first | done | with_reducible rfl))
          simp only [Act.put, List.setIfInBounds_toArray, List.set_cons_zero, List.set_cons_succ, List.getElem_toArray, List.getElem_cons_zero, List.getElem_cons_succ]
          refine wpAnyH_ready (rs := [20]) (by kernel_rfl) (by simp) ?_
          refine AllReadyH.cons rfl (fun K hK => ?_) AllReadyH.nil
          simp only [List.setIfInBounds_toArray, List.set_cons_zero, List.set_cons_succ, List.getElem_toArray, List.getElem_cons_zero, List.getElem_cons_succ]
          go_simp
          go_at_call 21
          refine (HS.out _).mono ?_
          rintro e v3 ⟨rfl, hv3⟩
          go_wp2_with fail
          obtain ⟨k0, k1, k2, k3, k4⟩ := hHeld
          refine hK.out _ _ ⟨cell_step hv3 k0, cell_step hv3 k1, cell_step hv3 k2, cell_step hv3 k3, below_step k4 hv3⟩ (fun hHeld => ?_)
          clear k0 k1 k2 k3 k4 hK K
          clear hv3
          try simp only [Act.put, List.setIfInBounds_toArray, List.set_cons_zero, List.set_cons_succ, List.getElem_toArray, List.getElem_cons_zero, List.getElem_cons_succ]
          refine wpAnyH_ready (rs := [26]) (by kernel_rfl) (by simp) ?_
          refine AllReadyH.cons rfl (fun K hK => ?_) AllReadyH.nil
          simp only [List.setIfInBounds_toArray, List.set_cons_zero, List.set_cons_succ, List.getElem_toArray, List.getElem_cons_zero, List.getElem_cons_succ]
          go_simp
          go_at_call 21
          refine (HP.out _).mono ?_
          rintro e v4 ⟨rfl, hv4⟩
          go_wp2_with fail
          obtain ⟨k0, k1, k2, k3, k4⟩ := hHeld
          refine hK.out _ _ ⟨cell_step hv4 k0, cell_step hv4 k1, cell_step hv4 k2, cell_step hv4 k3, below_step k4 hv4⟩ (fun hHeld => ?_)
          clear k0 k1 k2 k3 k4 hK K
          clear hv4
          try simp only [Act.put, List.setIfInBounds_toArray, List.set_cons_zero, List.set_cons_succ, List.getElem_toArray, List.getElem_cons_zero, List.getElem_cons_succ]
          refine wpAnyH_take (i := 27) (v := ?v52) rfl (by kernel_rfl) (by kernel_rfl) (by kernel_rfl) (fun _ _ _ h => h) (Or.inl ⟨by rfl, ?hy52⟩) (by assumption) ?rest52
          case hy52 => (intro w hSw; (try dsimp only at hSw); go_simp; (first | done | with_reducible rfl))
          simp only [Act.put, List.setIfInBounds_toArray, List.set_cons_zero, List.set_cons_succ, List.getElem_toArray, List.getElem_cons_zero, List.getElem_cons_succ]
          refine wpAnyH_take (i := 28) (v := ?v53) rfl (by kernel_rfl) (by kernel_rfl) (by kernel_rfl) (fun _ _ _ h => h) (Or.inl ⟨by rfl, ?hy53⟩) (by assumption) ?rest53
          case hy53 => (intro w hSw; (try dsimp only at hSw); go_simp; (first | done | with_reducible rfl))
          simp only [Act.put, List.setIfInBounds_toArray, List.set_cons_zero, List.set_cons_succ, List.getElem_toArray, List.getElem_cons_zero, List.getElem_cons_succ]
          refine wpAnyH_take (i := 29) (v := ?v54) rfl (by kernel_rfl) (by kernel_rfl) (by kernel_rfl) (fun _ _ _ h => h) (Or.inl ⟨by rfl, ?hy54⟩) (by assumption) ?rest54
          case hy54 => (intro w hSw; (try dsimp only at hSw); go_simp; (first | done | with_reducible rfl))
          simp only [Act.put, List.setIfInBounds_toArray, List.set_cons_zero, List.set_cons_succ, List.getElem_toArray, List.getElem_cons_zero, List.getElem_cons_succ]
          refine wpAnyH_done (by kernel_rfl) ?_ _
          go_wp2_with fail
          obtain ⟨k0, k1, _, _, k4⟩ := hHeld
          refine (HS.out _).mono ?_
          rintro e w7 ⟨rfl, h7⟩
          have hB7 := below_step (below_step hB0 k4) h7
          have d0 := cell_step h7 k0
          have d1 := cell_step h7 k1
          clear k0 k1 k4 h7
          by_cases s0 : 0 < s
          · have f5 : decide (0 < s) = true := by simpa using s0
            have wh : IntKind.i64.wrap (hi - 1) = hi - 1 := IntWalk.i64_in _ (by omega)
            go_wp2_with fail
            refine (HO1.out s0 _ hB7).mono ?_
            rintro e w8 ⟨rfl, h8⟩
            have hB8 := below_step hB7 h8
            have e0 := cell_step h8 d0
            have e1 := cell_step h8 d1
            clear d0 d1 h8
            go_wp2_with fail
            refine (HO2.out s0 _ hB8).mono ?_
            rintro e w9 ⟨rfl, h9⟩
            have hB9 := below_step hB8 h9
            go_wp2_with fail
            refine ⟨⟨j + 1, by omega, by rw [Int.natCast_add]; rfl, ?_⟩, ?_⟩
            · first | exact hB9 | exact hB9.alloc hB9.size _
            · show m - ((j : Int) + 1).toNat < m - ((j : Int)).toNat
              omega
          · have f5 : decide (0 < s) = false := by simpa using s0
            go_wp2_with fail
            refine ⟨⟨j + 1, by omega, by rw [Int.natCast_add]; rfl, ?_⟩, ?_⟩
            · first | exact hB7 | exact hB7.alloc hB7.size _
            · show m - ((j : Int) + 1).toNat < m - ((j : Int)).toNat
              omega
        · have f1 : (s != A / m) = true := by simp; omega
          have f2 : (s != A / m + 1) = false := by simpa using hs2
          have i0 : (0 : Int) ≤ ((j - 1 : Nat) : Int) := by omega
          have i1 : ((j - 1 : Nat) : Int) < (m : Int) := by omega
          have i2 : (((j - 1 : Nat) : Int)).toNat = j - 1 := rfl
          have Hs2 := Lib.hid hs2
          clear hs2
          refine wp_region_held_drew (S := fun w' => w'.cell? ⟨B, 0, none⟩ = some (.int .i64 lo) ∧ w'.cell? ⟨B, 1, none⟩ = some (.int .i64 hi) ∧ w'.cell? ⟨b, off + (j - 1) * 2, none⟩ = some (.int .i64 plo) ∧ w'.cell? ⟨b, off + (j - 1) * 2 + 1, none⟩ = some (.int .i64 phi) ∧ Below W0.heap.size W0 w') (by kernel_rfl) ?_ (fun hHeld => ?_)
          · (refine ⟨?_, ?_, ?_, ?_, ?_⟩ <;> (first | assumption | exact (Below.refl _ _).drew | exact r0 | exact r1 | exact p0 | exact p1))
          refine wpAnyH_take (i := 0) (v := ?v81) rfl (by kernel_rfl) (by kernel_rfl) (by kernel_rfl) (fun _ _ _ h => h) (Or.inl ⟨by rfl, ?hy81⟩) (by assumption) ?rest81
          case hy81 => (intro w hSw; (try dsimp only at hSw); go_simp; (first | done | with_reducible rfl))
          simp only [Act.put, List.setIfInBounds_toArray, List.set_cons_zero, List.set_cons_succ, List.getElem_toArray, List.getElem_cons_zero, List.getElem_cons_succ]
          refine wpAnyH_take (i := 2) (v := ?v82) rfl (by kernel_rfl) (by kernel_rfl) (by kernel_rfl) (fun _ _ _ h => h) (Or.inl ⟨by rfl, ?hy82⟩) (by assumption) ?rest82
          case hy82 => (intro w hSw; (try dsimp only at hSw); go_simp; (first | done | with_reducible rfl))
          simp only [Act.put, List.setIfInBounds_toArray, List.set_cons_zero, List.set_cons_succ, List.getElem_toArray, List.getElem_cons_zero, List.getElem_cons_succ]
          refine wpAnyH_take (i := 3) (v := ?v83) rfl (by kernel_rfl) (by kernel_rfl) (by kernel_rfl) (fun _ _ _ h => h) (Or.inl ⟨by rfl, ?hy83⟩) (by assumption) ?rest83
          case hy83 => (intro w hSw; (try dsimp only at hSw); go_simp; (first | done | with_reducible rfl))
          simp only [Act.put, List.setIfInBounds_toArray, List.set_cons_zero, List.set_cons_succ, List.getElem_toArray, List.getElem_cons_zero, List.getElem_cons_succ]
          refine wpAnyH_take (i := 4) (v := ?v84) rfl (by kernel_rfl) (by kernel_rfl) (by kernel_rfl) (fun _ _ _ h => h) (Or.inl ⟨by rfl, ?hy84⟩) (by assumption) ?rest84
          case hy84 => (intro w hSw; (try dsimp only at hSw); go_simp; (first | done | with_reducible rfl))
          simp only [Act.put, List.setIfInBounds_toArray, List.set_cons_zero, List.set_cons_succ, List.getElem_toArray, List.getElem_cons_zero, List.getElem_cons_succ]
          refine wpAnyH_ready (rs := [1]) (by kernel_rfl) (by simp) ?_
          refine AllReadyH.cons rfl (fun K hK => ?_) AllReadyH.nil
          simp only [List.setIfInBounds_toArray, List.set_cons_zero, List.set_cons_succ, List.getElem_toArray, List.getElem_cons_zero, List.getElem_cons_succ]
          go_simp
          go_at_call 21
          refine (HS.out _).mono ?_
          rintro e v1 ⟨rfl, hv1⟩
          go_wp2_with fail
          obtain ⟨k0, k1, k2, k3, k4⟩ := hHeld
          refine hK.out _ _ ⟨cell_step hv1 k0, cell_step hv1 k1, cell_step hv1 k2, cell_step hv1 k3, below_step k4 hv1⟩ (fun hHeld => ?_)
          clear k0 k1 k2 k3 k4 hK K
          clear hv1
          try simp only [Act.put, List.setIfInBounds_toArray, List.set_cons_zero, List.set_cons_succ, List.getElem_toArray, List.getElem_cons_zero, List.getElem_cons_succ]
          refine wpAnyH_take (i := 5) (v := ?v85) rfl (by kernel_rfl) (by kernel_rfl) (by kernel_rfl) (fun _ _ _ h => h) (Or.inl ⟨by rfl, ?hy85⟩) (by assumption) ?rest85
          case hy85 => (intro w hSw; (try dsimp only at hSw); go_simp; (first | done | with_reducible rfl))
          simp only [Act.put, List.setIfInBounds_toArray, List.set_cons_zero, List.set_cons_succ, List.getElem_toArray, List.getElem_cons_zero, List.getElem_cons_succ]
          refine wpAnyH_take (i := 6) (v := ?v86) rfl (by kernel_rfl) (by kernel_rfl) (by kernel_rfl) (fun _ _ _ h => h) (Or.inl ⟨by rfl, ?hy86⟩) (by assumption) ?rest86
          case hy86 => (intro w hSw; (try dsimp only at hSw); go_simp; (first | done | with_reducible rfl))
          simp only [Act.put, List.setIfInBounds_toArray, List.set_cons_zero, List.set_cons_succ, List.getElem_toArray, List.getElem_cons_zero, List.getElem_cons_succ]
          refine wpAnyH_take (i := 7) (v := ?v87) rfl (by kernel_rfl) (by kernel_rfl) (by kernel_rfl) (fun _ _ _ h => h) (Or.inl ⟨by rfl, ?hy87⟩) (by assumption) ?rest87
          case hy87 => (intro w hSw; (try dsimp only at hSw); go_simp; (first | done | with_reducible rfl))
          simp only [Act.put, List.setIfInBounds_toArray, List.set_cons_zero, List.set_cons_succ, List.getElem_toArray, List.getElem_cons_zero, List.getElem_cons_succ]
          refine wpAnyH_take (i := 9) (v := ?v88) rfl (by kernel_rfl) (by kernel_rfl) (by kernel_rfl) (fun _ _ _ h => h) (Or.inl ⟨by rfl, ?hy88⟩) (by assumption) ?rest88
          case hy88 => (intro w hSw; (try dsimp only at hSw); go_simp; (first | done | with_reducible rfl))
          simp only [Act.put, List.setIfInBounds_toArray, List.set_cons_zero, List.set_cons_succ, List.getElem_toArray, List.getElem_cons_zero, List.getElem_cons_succ]
          refine wpAnyH_take (i := 10) (v := ?v89) rfl (by kernel_rfl) (by kernel_rfl) (by kernel_rfl) (fun _ _ _ h => h) (Or.inl ⟨by rfl, ?hy89⟩) (by assumption) ?rest89
          case hy89 => (intro w hSw; (try dsimp only at hSw); go_simp; (first | done | with_reducible rfl))
          simp only [Act.put, List.setIfInBounds_toArray, List.set_cons_zero, List.set_cons_succ, List.getElem_toArray, List.getElem_cons_zero, List.getElem_cons_succ]
          refine wpAnyH_take (i := 11) (v := ?v90) rfl (by kernel_rfl) (by kernel_rfl) (by kernel_rfl) (fun _ _ _ h => h) (Or.inl ⟨by rfl, ?hy90⟩) (by assumption) ?rest90
          case hy90 => (intro w hSw; (try dsimp only at hSw); go_simp; (first | done | with_reducible rfl))
          simp only [Act.put, List.setIfInBounds_toArray, List.set_cons_zero, List.set_cons_succ, List.getElem_toArray, List.getElem_cons_zero, List.getElem_cons_succ]
          refine wpAnyH_take (i := 12) (v := ?v91) rfl (by kernel_rfl) (by kernel_rfl) (by kernel_rfl) (fun _ _ _ h => h) (Or.inl ⟨by rfl, ?hy91⟩) (by assumption) ?rest91
          case hy91 => (intro w hSw; (try dsimp only at hSw); go_simp; (first | done | with_reducible rfl))
          simp only [Act.put, List.setIfInBounds_toArray, List.set_cons_zero, List.set_cons_succ, List.getElem_toArray, List.getElem_cons_zero, List.getElem_cons_succ]
          refine wpAnyH_ready (rs := [8]) (by kernel_rfl) (by simp) ?_
          refine AllReadyH.cons rfl (fun K hK => ?_) AllReadyH.nil
          simp only [List.setIfInBounds_toArray, List.set_cons_zero, List.set_cons_succ, List.getElem_toArray, List.getElem_cons_zero, List.getElem_cons_succ]
          go_simp
          go_at_call 21
          refine (HS.out _).mono ?_
          rintro e v2 ⟨rfl, hv2⟩
          go_wp2_with fail
          obtain ⟨k0, k1, k2, k3, k4⟩ := hHeld
          refine hK.out _ _ ⟨cell_step hv2 k0, cell_step hv2 k1, cell_step hv2 k2, cell_step hv2 k3, below_step k4 hv2⟩ (fun hHeld => ?_)
          clear k0 k1 k2 k3 k4 hK K
          clear hv2
          try simp only [Act.put, List.setIfInBounds_toArray, List.set_cons_zero, List.set_cons_succ, List.getElem_toArray, List.getElem_cons_zero, List.getElem_cons_succ]
          refine wpAnyH_take (i := 13) (v := ?v92) rfl (by kernel_rfl) (by kernel_rfl) (by kernel_rfl) (fun _ _ _ h => h) (Or.inl ⟨by rfl, ?hy92⟩) (by assumption) ?rest92
          case hy92 => (intro w hSw; (try dsimp only at hSw); go_simp; (first | done | with_reducible rfl))
          simp only [Act.put, List.setIfInBounds_toArray, List.set_cons_zero, List.set_cons_succ, List.getElem_toArray, List.getElem_cons_zero, List.getElem_cons_succ]
          refine wpAnyH_take (i := 14) (v := ?v93) rfl (by kernel_rfl) (by kernel_rfl) (by kernel_rfl) (fun _ _ _ h => h) (Or.inl ⟨by rfl, ?hy93⟩) (by assumption) ?rest93
          case hy93 => (intro w hSw; (try dsimp only at hSw); go_simp; (first | done | with_reducible rfl))
          simp only [Act.put, List.setIfInBounds_toArray, List.set_cons_zero, List.set_cons_succ, List.getElem_toArray, List.getElem_cons_zero, List.getElem_cons_succ]
          refine wpAnyH_take (i := 15) (v := ?v94) rfl (by kernel_rfl) (by kernel_rfl) (by kernel_rfl) (fun _ _ _ h => h) (Or.inl ⟨by rfl, ?hy94⟩) (by assumption) ?rest94
          case hy94 => (intro w hSw; (try dsimp only at hSw); go_simp; (first | done | with_reducible rfl))
          simp only [Act.put, List.setIfInBounds_toArray, List.set_cons_zero, List.set_cons_succ, List.getElem_toArray, List.getElem_cons_zero, List.getElem_cons_succ]
          refine wpAnyH_take (i := 16) (v := ?v95) rfl (by kernel_rfl) (by kernel_rfl) (by kernel_rfl) (fun _ _ _ h => h) (Or.inl ⟨by rfl, ?hy95⟩) (by assumption) ?rest95
          case hy95 => (intro w hSw; (try dsimp only at hSw); go_simp; (first | done | with_reducible rfl))
          simp only [Act.put, List.setIfInBounds_toArray, List.set_cons_zero, List.set_cons_succ, List.getElem_toArray, List.getElem_cons_zero, List.getElem_cons_succ]
          refine wpAnyH_take (i := 17) (v := ?v96) rfl (by kernel_rfl) (by kernel_rfl) (by kernel_rfl) (fun _ _ _ h => h) (Or.inl ⟨by rfl, ?hy96⟩) (by assumption) ?rest96
          case hy96 => (intro w hSw; (try dsimp only at hSw); go_simp; (first | done | with_reducible rfl))
          simp only [Act.put, List.setIfInBounds_toArray, List.set_cons_zero, List.set_cons_succ, List.getElem_toArray, List.getElem_cons_zero, List.getElem_cons_succ]
          refine wpAnyH_take (i := 18) (v := ?v97) rfl (by kernel_rfl) (by kernel_rfl) (by kernel_rfl) (fun _ _ _ h => h) (Or.inl ⟨by rfl, ?hy97⟩) (by assumption) ?rest97
          case hy97 => (intro w hSw; (try dsimp only at hSw); go_simp; (first | done | with_reducible rfl))
          simp only [Act.put, List.setIfInBounds_toArray, List.set_cons_zero, List.set_cons_succ, List.getElem_toArray, List.getElem_cons_zero, List.getElem_cons_succ]
          refine wpAnyH_take (i := 19) (v := ?v98) rfl (by kernel_rfl) (by kernel_rfl) (by kernel_rfl) (fun _ _ _ h => h) (Or.inl ⟨by rfl, ?hy98⟩) (by assumption) ?rest98
          case hy98 => (intro w hSw; (try dsimp only at hSw); go_simp; (first | done | with_reducible rfl))
          simp only [Act.put, List.setIfInBounds_toArray, List.set_cons_zero, List.set_cons_succ, List.getElem_toArray, List.getElem_cons_zero, List.getElem_cons_succ]
          refine wpAnyH_take (i := 21) (v := ?v99) rfl (by kernel_rfl) (by kernel_rfl) (by kernel_rfl) (fun _ _ _ h => h) (Or.inl ⟨by rfl, ?hy99⟩) (by assumption) ?rest99
          case hy99 => (intro w hSw; (try dsimp only at hSw); go_simp; (first | done | with_reducible rfl))
          simp only [Act.put, List.setIfInBounds_toArray, List.set_cons_zero, List.set_cons_succ, List.getElem_toArray, List.getElem_cons_zero, List.getElem_cons_succ]
          refine wpAnyH_take (i := 22) (v := ?v100) rfl (by kernel_rfl) (by kernel_rfl) (by kernel_rfl) (fun _ _ _ h => h) (Or.inl ⟨by rfl, ?hy100⟩) (by assumption) ?rest100
          case hy100 => (intro w hSw; (try dsimp only at hSw); go_simp; (first | done | with_reducible rfl))
          simp only [Act.put, List.setIfInBounds_toArray, List.set_cons_zero, List.set_cons_succ, List.getElem_toArray, List.getElem_cons_zero, List.getElem_cons_succ]
          refine wpAnyH_take (i := 23) (v := ?v101) rfl (by kernel_rfl) (by kernel_rfl) (by kernel_rfl) (fun _ _ _ h => h) (Or.inl ⟨by rfl, ?hy101⟩) (by assumption) ?rest101
          case hy101 => (intro w hSw; (try dsimp only at hSw); go_simp; (first | done | with_reducible rfl))
          simp only [Act.put, List.setIfInBounds_toArray, List.set_cons_zero, List.set_cons_succ, List.getElem_toArray, List.getElem_cons_zero, List.getElem_cons_succ]
          refine wpAnyH_take (i := 24) (v := ?v102) rfl (by kernel_rfl) (by kernel_rfl) (by kernel_rfl) (fun _ _ _ h => h) (Or.inl ⟨by rfl, ?hy102⟩) (by assumption) ?rest102
          case hy102 => (intro w hSw; (try dsimp only at hSw); go_simp; (first | done | with_reducible rfl))
          simp only [Act.put, List.setIfInBounds_toArray, List.set_cons_zero, List.set_cons_succ, List.getElem_toArray, List.getElem_cons_zero, List.getElem_cons_succ]
          refine wpAnyH_take (i := 25) (v := ?v103) rfl (by kernel_rfl) (by kernel_rfl) (by kernel_rfl) (fun _ _ _ h => h) (Or.inl ⟨by rfl, ?hy103⟩) (by assumption) ?rest103
          case hy103 => (intro w hSw; (try dsimp only at hSw); go_simp; (first | done | with_reducible rfl))
          simp only [Act.put, List.setIfInBounds_toArray, List.set_cons_zero, List.set_cons_succ, List.getElem_toArray, List.getElem_cons_zero, List.getElem_cons_succ]
          refine wpAnyH_ready (rs := [20]) (by kernel_rfl) (by simp) ?_
          refine AllReadyH.cons rfl (fun K hK => ?_) AllReadyH.nil
          simp only [List.setIfInBounds_toArray, List.set_cons_zero, List.set_cons_succ, List.getElem_toArray, List.getElem_cons_zero, List.getElem_cons_succ]
          go_simp
          go_at_call 21
          refine (HS.out _).mono ?_
          rintro e v3 ⟨rfl, hv3⟩
          go_wp2_with fail
          obtain ⟨k0, k1, k2, k3, k4⟩ := hHeld
          refine hK.out _ _ ⟨cell_step hv3 k0, cell_step hv3 k1, cell_step hv3 k2, cell_step hv3 k3, below_step k4 hv3⟩ (fun hHeld => ?_)
          clear k0 k1 k2 k3 k4 hK K
          clear hv3
          try simp only [Act.put, List.setIfInBounds_toArray, List.set_cons_zero, List.set_cons_succ, List.getElem_toArray, List.getElem_cons_zero, List.getElem_cons_succ]
          refine wpAnyH_ready (rs := [26]) (by kernel_rfl) (by simp) ?_
          refine AllReadyH.cons rfl (fun K hK => ?_) AllReadyH.nil
          simp only [List.setIfInBounds_toArray, List.set_cons_zero, List.set_cons_succ, List.getElem_toArray, List.getElem_cons_zero, List.getElem_cons_succ]
          go_simp
          go_at_call 21
          refine (HP.out _).mono ?_
          rintro e v4 ⟨rfl, hv4⟩
          go_wp2_with fail
          obtain ⟨k0, k1, k2, k3, k4⟩ := hHeld
          refine hK.out _ _ ⟨cell_step hv4 k0, cell_step hv4 k1, cell_step hv4 k2, cell_step hv4 k3, below_step k4 hv4⟩ (fun hHeld => ?_)
          clear k0 k1 k2 k3 k4 hK K
          clear hv4
          try simp only [Act.put, List.setIfInBounds_toArray, List.set_cons_zero, List.set_cons_succ, List.getElem_toArray, List.getElem_cons_zero, List.getElem_cons_succ]
          refine wpAnyH_take (i := 27) (v := ?v104) rfl (by kernel_rfl) (by kernel_rfl) (by kernel_rfl) (fun _ _ _ h => h) (Or.inl ⟨by rfl, ?hy104⟩) (by assumption) ?rest104
          case hy104 => (intro w hSw; (try dsimp only at hSw); go_simp; (first | done | with_reducible rfl))
          simp only [Act.put, List.setIfInBounds_toArray, List.set_cons_zero, List.set_cons_succ, List.getElem_toArray, List.getElem_cons_zero, List.getElem_cons_succ]
          refine wpAnyH_take (i := 28) (v := ?v105) rfl (by kernel_rfl) (by kernel_rfl) (by kernel_rfl) (fun _ _ _ h => h) (Or.inl ⟨by rfl, ?hy105⟩) (by assumption) ?rest105
          case hy105 => (intro w hSw; (try dsimp only at hSw); go_simp; (first | done | with_reducible rfl))
          simp only [Act.put, List.setIfInBounds_toArray, List.set_cons_zero, List.set_cons_succ, List.getElem_toArray, List.getElem_cons_zero, List.getElem_cons_succ]
          refine wpAnyH_take (i := 29) (v := ?v106) rfl (by kernel_rfl) (by kernel_rfl) (by kernel_rfl) (fun _ _ _ h => h) (Or.inl ⟨by rfl, ?hy106⟩) (by assumption) ?rest106
          case hy106 => (intro w hSw; (try dsimp only at hSw); go_simp; (first | done | with_reducible rfl))
          simp only [Act.put, List.setIfInBounds_toArray, List.set_cons_zero, List.set_cons_succ, List.getElem_toArray, List.getElem_cons_zero, List.getElem_cons_succ]
          refine wpAnyH_done (by kernel_rfl) ?_ _
          go_wp2_with fail
          obtain ⟨k0, k1, _, _, k4⟩ := hHeld
          refine (HS.out _).mono ?_
          rintro e w7 ⟨rfl, h7⟩
          have hB7 := below_step (below_step hB0 k4) h7
          have d0 := cell_step h7 k0
          have d1 := cell_step h7 k1
          clear k0 k1 k4 h7
          by_cases s0 : 0 < s
          · have f5 : decide (0 < s) = true := by simpa using s0
            have wh : IntKind.i64.wrap (hi - 1) = hi - 1 := IntWalk.i64_in _ (by omega)
            go_wp2_with fail
            refine (HO1.out s0 _ hB7).mono ?_
            rintro e w8 ⟨rfl, h8⟩
            have hB8 := below_step hB7 h8
            have e0 := cell_step h8 d0
            have e1 := cell_step h8 d1
            clear d0 d1 h8
            go_wp2_with fail
            refine (HO2.out s0 _ hB8).mono ?_
            rintro e w9 ⟨rfl, h9⟩
            have hB9 := below_step hB8 h9
            go_wp2_with fail
            refine ⟨⟨j + 1, by omega, by rw [Int.natCast_add]; rfl, ?_⟩, ?_⟩
            · first | exact hB9 | exact hB9.alloc hB9.size _
            · show m - ((j : Int) + 1).toNat < m - ((j : Int)).toNat
              omega
          · have f5 : decide (0 < s) = false := by simpa using s0
            go_wp2_with fail
            refine ⟨⟨j + 1, by omega, by rw [Int.natCast_add]; rfl, ?_⟩, ?_⟩
            · first | exact hB7 | exact hB7.alloc hB7.size _
            · show m - ((j : Int) + 1).toNat < m - ((j : Int)).toNat
              omega
      · obtain ⟨r0, r1⟩ := r01
        clear pc0
        have f4 : decide ((0 : Int) < (j : Int)) = false := by simp; omega
        rcases hs2 with hs2 | hs2
        · have f1 : (s != A / m) = false := by simpa using hs2
          have Hs2 := Lib.hid hs2
          clear hs2
          refine wp_region_held_drew (S := fun w' => w'.cell? ⟨B, 0, none⟩ = some (.int .i64 lo) ∧ w'.cell? ⟨B, 1, none⟩ = some (.int .i64 hi) ∧ Below W0.heap.size W0 w') (by kernel_rfl) ?_ (fun hHeld => ?_)
          · exact ⟨r0, r1, (Below.refl _ _).drew⟩
          refine wpAnyH_take (i := 0) (v := ?v136) rfl (by kernel_rfl) (by kernel_rfl) (by kernel_rfl) (fun _ _ _ h => h) (Or.inl ⟨by rfl, ?hy136⟩) (by assumption) ?rest136
          case hy136 => (intro w hSw; (try dsimp only at hSw); go_simp; (first | done | with_reducible rfl))
          simp only [Act.put, List.setIfInBounds_toArray, List.set_cons_zero, List.set_cons_succ, List.getElem_toArray, List.getElem_cons_zero, List.getElem_cons_succ]
          refine wpAnyH_take (i := 2) (v := ?v137) rfl (by kernel_rfl) (by kernel_rfl) (by kernel_rfl) (fun _ _ _ h => h) (Or.inl ⟨by rfl, ?hy137⟩) (by assumption) ?rest137
          case hy137 => (intro w hSw; (try dsimp only at hSw); go_simp; (first | done | with_reducible rfl))
          simp only [Act.put, List.setIfInBounds_toArray, List.set_cons_zero, List.set_cons_succ, List.getElem_toArray, List.getElem_cons_zero, List.getElem_cons_succ]
          refine wpAnyH_take (i := 3) (v := ?v138) rfl (by kernel_rfl) (by kernel_rfl) (by kernel_rfl) (fun _ _ _ h => h) (Or.inl ⟨by rfl, ?hy138⟩) (by assumption) ?rest138
          case hy138 => (intro w hSw; (try dsimp only at hSw); go_simp; (first | done | with_reducible rfl))
          simp only [Act.put, List.setIfInBounds_toArray, List.set_cons_zero, List.set_cons_succ, List.getElem_toArray, List.getElem_cons_zero, List.getElem_cons_succ]
          refine wpAnyH_take (i := 4) (v := ?v139) rfl (by kernel_rfl) (by kernel_rfl) (by kernel_rfl) (fun _ _ _ h => h) (Or.inl ⟨by rfl, ?hy139⟩) (by assumption) ?rest139
          case hy139 => (intro w hSw; (try dsimp only at hSw); go_simp; (first | done | with_reducible rfl))
          simp only [Act.put, List.setIfInBounds_toArray, List.set_cons_zero, List.set_cons_succ, List.getElem_toArray, List.getElem_cons_zero, List.getElem_cons_succ]
          refine wpAnyH_ready (rs := [1]) (by kernel_rfl) (by simp) ?_
          refine AllReadyH.cons rfl (fun K hK => ?_) AllReadyH.nil
          simp only [List.setIfInBounds_toArray, List.set_cons_zero, List.set_cons_succ, List.getElem_toArray, List.getElem_cons_zero, List.getElem_cons_succ]
          go_simp
          go_at_call 21
          refine (HS.out _).mono ?_
          rintro e v1 ⟨rfl, hv1⟩
          go_wp2_with fail
          obtain ⟨k0, k1, k4⟩ := hHeld
          refine hK.out _ _ ⟨cell_step hv1 k0, cell_step hv1 k1, below_step k4 hv1⟩ (fun hHeld => ?_)
          clear k0 k1 k4 hK K
          clear hv1
          try simp only [Act.put, List.setIfInBounds_toArray, List.set_cons_zero, List.set_cons_succ, List.getElem_toArray, List.getElem_cons_zero, List.getElem_cons_succ]
          refine wpAnyH_take (i := 5) (v := ?v140) rfl (by kernel_rfl) (by kernel_rfl) (by kernel_rfl) (fun _ _ _ h => h) (Or.inl ⟨by rfl, ?hy140⟩) (by assumption) ?rest140
          case hy140 => (intro w hSw; (try dsimp only at hSw); go_simp; (first | done | with_reducible rfl))
          simp only [Act.put, List.setIfInBounds_toArray, List.set_cons_zero, List.set_cons_succ, List.getElem_toArray, List.getElem_cons_zero, List.getElem_cons_succ]
          refine wpAnyH_take (i := 6) (v := ?v141) rfl (by kernel_rfl) (by kernel_rfl) (by kernel_rfl) (fun _ _ _ h => h) (Or.inl ⟨by rfl, ?hy141⟩) (by assumption) ?rest141
          case hy141 => (intro w hSw; (try dsimp only at hSw); go_simp; (first | done | with_reducible rfl))
          simp only [Act.put, List.setIfInBounds_toArray, List.set_cons_zero, List.set_cons_succ, List.getElem_toArray, List.getElem_cons_zero, List.getElem_cons_succ]
          refine wpAnyH_take (i := 7) (v := undef) rfl (by kernel_rfl) (by kernel_rfl) (by kernel_rfl) (fun _ _ _ h => h) (Or.inr ⟨by rfl, rfl⟩) (by assumption) ?rest142
          simp only [Act.put, List.setIfInBounds_toArray, List.set_cons_zero, List.set_cons_succ, List.getElem_toArray, List.getElem_cons_zero, List.getElem_cons_succ]
          refine wpAnyH_take (i := 9) (v := undef) rfl (by kernel_rfl) (by kernel_rfl) (by kernel_rfl) (fun _ _ _ h => h) (Or.inr ⟨by rfl, rfl⟩) (by assumption) ?rest143
          simp only [Act.put, List.setIfInBounds_toArray, List.set_cons_zero, List.set_cons_succ, List.getElem_toArray, List.getElem_cons_zero, List.getElem_cons_succ]
          refine wpAnyH_take (i := 10) (v := undef) rfl (by kernel_rfl) (by kernel_rfl) (by kernel_rfl) (fun _ _ _ h => h) (Or.inr ⟨by rfl, rfl⟩) (by assumption) ?rest144
          simp only [Act.put, List.setIfInBounds_toArray, List.set_cons_zero, List.set_cons_succ, List.getElem_toArray, List.getElem_cons_zero, List.getElem_cons_succ]
          refine wpAnyH_take (i := 11) (v := undef) rfl (by kernel_rfl) (by kernel_rfl) (by kernel_rfl) (fun _ _ _ h => h) (Or.inr ⟨by rfl, rfl⟩) (by assumption) ?rest145
          simp only [Act.put, List.setIfInBounds_toArray, List.set_cons_zero, List.set_cons_succ, List.getElem_toArray, List.getElem_cons_zero, List.getElem_cons_succ]
          refine wpAnyH_take (i := 12) (v := undef) rfl (by kernel_rfl) (by kernel_rfl) (by kernel_rfl) (fun _ _ _ h => h) (Or.inr ⟨by rfl, rfl⟩) (by assumption) ?rest146
          simp only [Act.put, List.setIfInBounds_toArray, List.set_cons_zero, List.set_cons_succ, List.getElem_toArray, List.getElem_cons_zero, List.getElem_cons_succ]
          refine wpAnyH_take (i := 8) (v := undef) rfl (by kernel_rfl) (by kernel_rfl) (by kernel_rfl) (fun _ _ _ h => h) (Or.inr ⟨by rfl, rfl⟩) (by assumption) ?rest147
          simp only [Act.put, List.setIfInBounds_toArray, List.set_cons_zero, List.set_cons_succ, List.getElem_toArray, List.getElem_cons_zero, List.getElem_cons_succ]
          refine wpAnyH_take (i := 13) (v := undef) rfl (by kernel_rfl) (by kernel_rfl) (by kernel_rfl) (fun _ _ _ h => h) (Or.inr ⟨by rfl, rfl⟩) (by assumption) ?rest148
          simp only [Act.put, List.setIfInBounds_toArray, List.set_cons_zero, List.set_cons_succ, List.getElem_toArray, List.getElem_cons_zero, List.getElem_cons_succ]
          refine wpAnyH_take (i := 14) (v := ?v149) rfl (by kernel_rfl) (by kernel_rfl) (by kernel_rfl) (fun _ _ _ h => h) (Or.inl ⟨by rfl, ?hy149⟩) (by assumption) ?rest149
          case hy149 => (intro w hSw; (try dsimp only at hSw); go_simp; (first | done | with_reducible rfl))
          simp only [Act.put, List.setIfInBounds_toArray, List.set_cons_zero, List.set_cons_succ, List.getElem_toArray, List.getElem_cons_zero, List.getElem_cons_succ]
          refine wpAnyH_take (i := 15) (v := ?v150) rfl (by kernel_rfl) (by kernel_rfl) (by kernel_rfl) (fun _ _ _ h => h) (Or.inl ⟨by rfl, ?hy150⟩) (by assumption) ?rest150
          case hy150 => (intro w hSw; (try dsimp only at hSw); go_simp; (first | done | with_reducible rfl))
          simp only [Act.put, List.setIfInBounds_toArray, List.set_cons_zero, List.set_cons_succ, List.getElem_toArray, List.getElem_cons_zero, List.getElem_cons_succ]
          refine wpAnyH_take (i := 16) (v := ?v151) rfl (by kernel_rfl) (by kernel_rfl) (by kernel_rfl) (fun _ _ _ h => h) (Or.inl ⟨by rfl, ?hy151⟩) (by assumption) ?rest151
          case hy151 => (intro w hSw; (try dsimp only at hSw); go_simp; (first | done | with_reducible rfl))
          simp only [Act.put, List.setIfInBounds_toArray, List.set_cons_zero, List.set_cons_succ, List.getElem_toArray, List.getElem_cons_zero, List.getElem_cons_succ]
          refine wpAnyH_take (i := 17) (v := ?v152) rfl (by kernel_rfl) (by kernel_rfl) (by kernel_rfl) (fun _ _ _ h => h) (Or.inl ⟨by rfl, ?hy152⟩) (by assumption) ?rest152
          case hy152 => (intro w hSw; (try dsimp only at hSw); go_simp; (first | done | with_reducible rfl))
          simp only [Act.put, List.setIfInBounds_toArray, List.set_cons_zero, List.set_cons_succ, List.getElem_toArray, List.getElem_cons_zero, List.getElem_cons_succ]
          refine wpAnyH_take (i := 18) (v := ?v153) rfl (by kernel_rfl) (by kernel_rfl) (by kernel_rfl) (fun _ _ _ h => h) (Or.inl ⟨by rfl, ?hy153⟩) (by assumption) ?rest153
          case hy153 => (intro w hSw; (try dsimp only at hSw); go_simp; (first | done | with_reducible rfl))
          simp only [Act.put, List.setIfInBounds_toArray, List.set_cons_zero, List.set_cons_succ, List.getElem_toArray, List.getElem_cons_zero, List.getElem_cons_succ]
          refine wpAnyH_take (i := 19) (v := undef) rfl (by kernel_rfl) (by kernel_rfl) (by kernel_rfl) (fun _ _ _ h => h) (Or.inr ⟨by rfl, rfl⟩) (by assumption) ?rest154
          simp only [Act.put, List.setIfInBounds_toArray, List.set_cons_zero, List.set_cons_succ, List.getElem_toArray, List.getElem_cons_zero, List.getElem_cons_succ]
          refine wpAnyH_take (i := 21) (v := undef) rfl (by kernel_rfl) (by kernel_rfl) (by kernel_rfl) (fun _ _ _ h => h) (Or.inr ⟨by rfl, rfl⟩) (by assumption) ?rest155
          simp only [Act.put, List.setIfInBounds_toArray, List.set_cons_zero, List.set_cons_succ, List.getElem_toArray, List.getElem_cons_zero, List.getElem_cons_succ]
          refine wpAnyH_take (i := 22) (v := undef) rfl (by kernel_rfl) (by kernel_rfl) (by kernel_rfl) (fun _ _ _ h => h) (Or.inr ⟨by rfl, rfl⟩) (by assumption) ?rest156
          simp only [Act.put, List.setIfInBounds_toArray, List.set_cons_zero, List.set_cons_succ, List.getElem_toArray, List.getElem_cons_zero, List.getElem_cons_succ]
          refine wpAnyH_take (i := 23) (v := undef) rfl (by kernel_rfl) (by kernel_rfl) (by kernel_rfl) (fun _ _ _ h => h) (Or.inr ⟨by rfl, rfl⟩) (by assumption) ?rest157
          simp only [Act.put, List.setIfInBounds_toArray, List.set_cons_zero, List.set_cons_succ, List.getElem_toArray, List.getElem_cons_zero, List.getElem_cons_succ]
          refine wpAnyH_take (i := 24) (v := undef) rfl (by kernel_rfl) (by kernel_rfl) (by kernel_rfl) (fun _ _ _ h => h) (Or.inr ⟨by rfl, rfl⟩) (by assumption) ?rest158
          simp only [Act.put, List.setIfInBounds_toArray, List.set_cons_zero, List.set_cons_succ, List.getElem_toArray, List.getElem_cons_zero, List.getElem_cons_succ]
          refine wpAnyH_take (i := 25) (v := undef) rfl (by kernel_rfl) (by kernel_rfl) (by kernel_rfl) (fun _ _ _ h => h) (Or.inr ⟨by rfl, rfl⟩) (by assumption) ?rest159
          simp only [Act.put, List.setIfInBounds_toArray, List.set_cons_zero, List.set_cons_succ, List.getElem_toArray, List.getElem_cons_zero, List.getElem_cons_succ]
          refine wpAnyH_take (i := 20) (v := undef) rfl (by kernel_rfl) (by kernel_rfl) (by kernel_rfl) (fun _ _ _ h => h) (Or.inr ⟨by rfl, rfl⟩) (by assumption) ?rest160
          simp only [Act.put, List.setIfInBounds_toArray, List.set_cons_zero, List.set_cons_succ, List.getElem_toArray, List.getElem_cons_zero, List.getElem_cons_succ]
          refine wpAnyH_take (i := 26) (v := undef) rfl (by kernel_rfl) (by kernel_rfl) (by kernel_rfl) (fun _ _ _ h => h) (Or.inr ⟨by rfl, rfl⟩) (by assumption) ?rest161
          simp only [Act.put, List.setIfInBounds_toArray, List.set_cons_zero, List.set_cons_succ, List.getElem_toArray, List.getElem_cons_zero, List.getElem_cons_succ]
          refine wpAnyH_take (i := 27) (v := undef) rfl (by kernel_rfl) (by kernel_rfl) (by kernel_rfl) (fun _ _ _ h => h) (Or.inr ⟨by rfl, rfl⟩) (by assumption) ?rest162
          simp only [Act.put, List.setIfInBounds_toArray, List.set_cons_zero, List.set_cons_succ, List.getElem_toArray, List.getElem_cons_zero, List.getElem_cons_succ]
          refine wpAnyH_take (i := 28) (v := ?v163) rfl (by kernel_rfl) (by kernel_rfl) (by kernel_rfl) (fun _ _ _ h => h) (Or.inl ⟨by rfl, ?hy163⟩) (by assumption) ?rest163
          case hy163 => (intro w hSw; (try dsimp only at hSw); go_simp; (first | done | with_reducible rfl))
          simp only [Act.put, List.setIfInBounds_toArray, List.set_cons_zero, List.set_cons_succ, List.getElem_toArray, List.getElem_cons_zero, List.getElem_cons_succ]
          refine wpAnyH_take (i := 29) (v := ?v164) rfl (by kernel_rfl) (by kernel_rfl) (by kernel_rfl) (fun _ _ _ h => h) (Or.inl ⟨by rfl, ?hy164⟩) (by assumption) ?rest164
          case hy164 => (intro w hSw; (try dsimp only at hSw); go_simp; (first | done | with_reducible rfl))
          simp only [Act.put, List.setIfInBounds_toArray, List.set_cons_zero, List.set_cons_succ, List.getElem_toArray, List.getElem_cons_zero, List.getElem_cons_succ]
          refine wpAnyH_done (by kernel_rfl) ?_ _
          go_wp2_with fail
          obtain ⟨k0, k1, k4⟩ := hHeld
          refine (HS.out _).mono ?_
          rintro e w7 ⟨rfl, h7⟩
          have hB7 := below_step (below_step hB0 k4) h7
          have d0 := cell_step h7 k0
          have d1 := cell_step h7 k1
          clear k0 k1 k4 h7
          by_cases s0 : 0 < s
          · have f5 : decide (0 < s) = true := by simpa using s0
            have wh : IntKind.i64.wrap (hi - 1) = hi - 1 := IntWalk.i64_in _ (by omega)
            go_wp2_with fail
            refine (HO1.out s0 _ hB7).mono ?_
            rintro e w8 ⟨rfl, h8⟩
            have hB8 := below_step hB7 h8
            have e0 := cell_step h8 d0
            have e1 := cell_step h8 d1
            clear d0 d1 h8
            go_wp2_with fail
            refine (HO2.out s0 _ hB8).mono ?_
            rintro e w9 ⟨rfl, h9⟩
            have hB9 := below_step hB8 h9
            go_wp2_with fail
            refine ⟨⟨j + 1, by omega, by rw [Int.natCast_add]; rfl, ?_⟩, ?_⟩
            · first | exact hB9 | exact hB9.alloc hB9.size _
            · show m - ((j : Int) + 1).toNat < m - ((j : Int)).toNat
              omega
          · have f5 : decide (0 < s) = false := by simpa using s0
            go_wp2_with fail
            refine ⟨⟨j + 1, by omega, by rw [Int.natCast_add]; rfl, ?_⟩, ?_⟩
            · first | exact hB7 | exact hB7.alloc hB7.size _
            · show m - ((j : Int) + 1).toNat < m - ((j : Int)).toNat
              omega
        · have f1 : (s != A / m) = true := by simp; omega
          have f2 : (s != A / m + 1) = false := by simpa using hs2
          have Hs2 := Lib.hid hs2
          clear hs2
          refine wp_region_held_drew (S := fun w' => w'.cell? ⟨B, 0, none⟩ = some (.int .i64 lo) ∧ w'.cell? ⟨B, 1, none⟩ = some (.int .i64 hi) ∧ Below W0.heap.size W0 w') (by kernel_rfl) ?_ (fun hHeld => ?_)
          · exact ⟨r0, r1, (Below.refl _ _).drew⟩
          refine wpAnyH_take (i := 0) (v := ?v193) rfl (by kernel_rfl) (by kernel_rfl) (by kernel_rfl) (fun _ _ _ h => h) (Or.inl ⟨by rfl, ?hy193⟩) (by assumption) ?rest193
          case hy193 => (intro w hSw; (try dsimp only at hSw); go_simp; (first | done | with_reducible rfl))
          simp only [Act.put, List.setIfInBounds_toArray, List.set_cons_zero, List.set_cons_succ, List.getElem_toArray, List.getElem_cons_zero, List.getElem_cons_succ]
          refine wpAnyH_take (i := 2) (v := ?v194) rfl (by kernel_rfl) (by kernel_rfl) (by kernel_rfl) (fun _ _ _ h => h) (Or.inl ⟨by rfl, ?hy194⟩) (by assumption) ?rest194
          case hy194 => (intro w hSw; (try dsimp only at hSw); go_simp; (first | done | with_reducible rfl))
          simp only [Act.put, List.setIfInBounds_toArray, List.set_cons_zero, List.set_cons_succ, List.getElem_toArray, List.getElem_cons_zero, List.getElem_cons_succ]
          refine wpAnyH_take (i := 3) (v := ?v195) rfl (by kernel_rfl) (by kernel_rfl) (by kernel_rfl) (fun _ _ _ h => h) (Or.inl ⟨by rfl, ?hy195⟩) (by assumption) ?rest195
          case hy195 => (intro w hSw; (try dsimp only at hSw); go_simp; (first | done | with_reducible rfl))
          simp only [Act.put, List.setIfInBounds_toArray, List.set_cons_zero, List.set_cons_succ, List.getElem_toArray, List.getElem_cons_zero, List.getElem_cons_succ]
          refine wpAnyH_take (i := 4) (v := ?v196) rfl (by kernel_rfl) (by kernel_rfl) (by kernel_rfl) (fun _ _ _ h => h) (Or.inl ⟨by rfl, ?hy196⟩) (by assumption) ?rest196
          case hy196 => (intro w hSw; (try dsimp only at hSw); go_simp; (first | done | with_reducible rfl))
          simp only [Act.put, List.setIfInBounds_toArray, List.set_cons_zero, List.set_cons_succ, List.getElem_toArray, List.getElem_cons_zero, List.getElem_cons_succ]
          refine wpAnyH_ready (rs := [1]) (by kernel_rfl) (by simp) ?_
          refine AllReadyH.cons rfl (fun K hK => ?_) AllReadyH.nil
          simp only [List.setIfInBounds_toArray, List.set_cons_zero, List.set_cons_succ, List.getElem_toArray, List.getElem_cons_zero, List.getElem_cons_succ]
          go_simp
          go_at_call 21
          refine (HS.out _).mono ?_
          rintro e v1 ⟨rfl, hv1⟩
          go_wp2_with fail
          obtain ⟨k0, k1, k4⟩ := hHeld
          refine hK.out _ _ ⟨cell_step hv1 k0, cell_step hv1 k1, below_step k4 hv1⟩ (fun hHeld => ?_)
          clear k0 k1 k4 hK K
          clear hv1
          try simp only [Act.put, List.setIfInBounds_toArray, List.set_cons_zero, List.set_cons_succ, List.getElem_toArray, List.getElem_cons_zero, List.getElem_cons_succ]
          refine wpAnyH_take (i := 5) (v := ?v197) rfl (by kernel_rfl) (by kernel_rfl) (by kernel_rfl) (fun _ _ _ h => h) (Or.inl ⟨by rfl, ?hy197⟩) (by assumption) ?rest197
          case hy197 => (intro w hSw; (try dsimp only at hSw); go_simp; (first | done | with_reducible rfl))
          simp only [Act.put, List.setIfInBounds_toArray, List.set_cons_zero, List.set_cons_succ, List.getElem_toArray, List.getElem_cons_zero, List.getElem_cons_succ]
          refine wpAnyH_take (i := 6) (v := ?v198) rfl (by kernel_rfl) (by kernel_rfl) (by kernel_rfl) (fun _ _ _ h => h) (Or.inl ⟨by rfl, ?hy198⟩) (by assumption) ?rest198
          case hy198 => (intro w hSw; (try dsimp only at hSw); go_simp; (first | done | with_reducible rfl))
          simp only [Act.put, List.setIfInBounds_toArray, List.set_cons_zero, List.set_cons_succ, List.getElem_toArray, List.getElem_cons_zero, List.getElem_cons_succ]
          refine wpAnyH_take (i := 7) (v := ?v199) rfl (by kernel_rfl) (by kernel_rfl) (by kernel_rfl) (fun _ _ _ h => h) (Or.inl ⟨by rfl, ?hy199⟩) (by assumption) ?rest199
          case hy199 => (intro w hSw; (try dsimp only at hSw); go_simp; (first | done | with_reducible rfl))
          simp only [Act.put, List.setIfInBounds_toArray, List.set_cons_zero, List.set_cons_succ, List.getElem_toArray, List.getElem_cons_zero, List.getElem_cons_succ]
          refine wpAnyH_take (i := 9) (v := ?v200) rfl (by kernel_rfl) (by kernel_rfl) (by kernel_rfl) (fun _ _ _ h => h) (Or.inl ⟨by rfl, ?hy200⟩) (by assumption) ?rest200
          case hy200 => (intro w hSw; (try dsimp only at hSw); go_simp; (first | done | with_reducible rfl))
          simp only [Act.put, List.setIfInBounds_toArray, List.set_cons_zero, List.set_cons_succ, List.getElem_toArray, List.getElem_cons_zero, List.getElem_cons_succ]
          refine wpAnyH_take (i := 10) (v := ?v201) rfl (by kernel_rfl) (by kernel_rfl) (by kernel_rfl) (fun _ _ _ h => h) (Or.inl ⟨by rfl, ?hy201⟩) (by assumption) ?rest201
          case hy201 => (intro w hSw; (try dsimp only at hSw); go_simp; (first | done | with_reducible rfl))
          simp only [Act.put, List.setIfInBounds_toArray, List.set_cons_zero, List.set_cons_succ, List.getElem_toArray, List.getElem_cons_zero, List.getElem_cons_succ]
          refine wpAnyH_take (i := 11) (v := ?v202) rfl (by kernel_rfl) (by kernel_rfl) (by kernel_rfl) (fun _ _ _ h => h) (Or.inl ⟨by rfl, ?hy202⟩) (by assumption) ?rest202
          case hy202 => (intro w hSw; (try dsimp only at hSw); go_simp; (first | done | with_reducible rfl))
          simp only [Act.put, List.setIfInBounds_toArray, List.set_cons_zero, List.set_cons_succ, List.getElem_toArray, List.getElem_cons_zero, List.getElem_cons_succ]
          refine wpAnyH_take (i := 12) (v := ?v203) rfl (by kernel_rfl) (by kernel_rfl) (by kernel_rfl) (fun _ _ _ h => h) (Or.inl ⟨by rfl, ?hy203⟩) (by assumption) ?rest203
          case hy203 => (intro w hSw; (try dsimp only at hSw); go_simp; (first | done | with_reducible rfl))
          simp only [Act.put, List.setIfInBounds_toArray, List.set_cons_zero, List.set_cons_succ, List.getElem_toArray, List.getElem_cons_zero, List.getElem_cons_succ]
          refine wpAnyH_ready (rs := [8]) (by kernel_rfl) (by simp) ?_
          refine AllReadyH.cons rfl (fun K hK => ?_) AllReadyH.nil
          simp only [List.setIfInBounds_toArray, List.set_cons_zero, List.set_cons_succ, List.getElem_toArray, List.getElem_cons_zero, List.getElem_cons_succ]
          go_simp
          go_at_call 21
          refine (HS.out _).mono ?_
          rintro e v2 ⟨rfl, hv2⟩
          go_wp2_with fail
          obtain ⟨k0, k1, k4⟩ := hHeld
          refine hK.out _ _ ⟨cell_step hv2 k0, cell_step hv2 k1, below_step k4 hv2⟩ (fun hHeld => ?_)
          clear k0 k1 k4 hK K
          clear hv2
          try simp only [Act.put, List.setIfInBounds_toArray, List.set_cons_zero, List.set_cons_succ, List.getElem_toArray, List.getElem_cons_zero, List.getElem_cons_succ]
          refine wpAnyH_take (i := 13) (v := ?v204) rfl (by kernel_rfl) (by kernel_rfl) (by kernel_rfl) (fun _ _ _ h => h) (Or.inl ⟨by rfl, ?hy204⟩) (by assumption) ?rest204
          case hy204 => (intro w hSw; (try dsimp only at hSw); go_simp; (first | done | with_reducible rfl))
          simp only [Act.put, List.setIfInBounds_toArray, List.set_cons_zero, List.set_cons_succ, List.getElem_toArray, List.getElem_cons_zero, List.getElem_cons_succ]
          refine wpAnyH_take (i := 14) (v := ?v205) rfl (by kernel_rfl) (by kernel_rfl) (by kernel_rfl) (fun _ _ _ h => h) (Or.inl ⟨by rfl, ?hy205⟩) (by assumption) ?rest205
          case hy205 => (intro w hSw; (try dsimp only at hSw); go_simp; (first | done | with_reducible rfl))
          simp only [Act.put, List.setIfInBounds_toArray, List.set_cons_zero, List.set_cons_succ, List.getElem_toArray, List.getElem_cons_zero, List.getElem_cons_succ]
          refine wpAnyH_take (i := 15) (v := ?v206) rfl (by kernel_rfl) (by kernel_rfl) (by kernel_rfl) (fun _ _ _ h => h) (Or.inl ⟨by rfl, ?hy206⟩) (by assumption) ?rest206
          case hy206 => (intro w hSw; (try dsimp only at hSw); go_simp; (first | done | with_reducible rfl))
          simp only [Act.put, List.setIfInBounds_toArray, List.set_cons_zero, List.set_cons_succ, List.getElem_toArray, List.getElem_cons_zero, List.getElem_cons_succ]
          refine wpAnyH_take (i := 16) (v := ?v207) rfl (by kernel_rfl) (by kernel_rfl) (by kernel_rfl) (fun _ _ _ h => h) (Or.inl ⟨by rfl, ?hy207⟩) (by assumption) ?rest207
          case hy207 => (intro w hSw; (try dsimp only at hSw); go_simp; (first | done | with_reducible rfl))
          simp only [Act.put, List.setIfInBounds_toArray, List.set_cons_zero, List.set_cons_succ, List.getElem_toArray, List.getElem_cons_zero, List.getElem_cons_succ]
          refine wpAnyH_take (i := 17) (v := ?v208) rfl (by kernel_rfl) (by kernel_rfl) (by kernel_rfl) (fun _ _ _ h => h) (Or.inl ⟨by rfl, ?hy208⟩) (by assumption) ?rest208
          case hy208 => (intro w hSw; (try dsimp only at hSw); go_simp; (first | done | with_reducible rfl))
          simp only [Act.put, List.setIfInBounds_toArray, List.set_cons_zero, List.set_cons_succ, List.getElem_toArray, List.getElem_cons_zero, List.getElem_cons_succ]
          refine wpAnyH_take (i := 18) (v := ?v209) rfl (by kernel_rfl) (by kernel_rfl) (by kernel_rfl) (fun _ _ _ h => h) (Or.inl ⟨by rfl, ?hy209⟩) (by assumption) ?rest209
          case hy209 => (intro w hSw; (try dsimp only at hSw); go_simp; (first | done | with_reducible rfl))
          simp only [Act.put, List.setIfInBounds_toArray, List.set_cons_zero, List.set_cons_succ, List.getElem_toArray, List.getElem_cons_zero, List.getElem_cons_succ]
          refine wpAnyH_take (i := 19) (v := undef) rfl (by kernel_rfl) (by kernel_rfl) (by kernel_rfl) (fun _ _ _ h => h) (Or.inr ⟨by rfl, rfl⟩) (by assumption) ?rest210
          simp only [Act.put, List.setIfInBounds_toArray, List.set_cons_zero, List.set_cons_succ, List.getElem_toArray, List.getElem_cons_zero, List.getElem_cons_succ]
          refine wpAnyH_take (i := 21) (v := undef) rfl (by kernel_rfl) (by kernel_rfl) (by kernel_rfl) (fun _ _ _ h => h) (Or.inr ⟨by rfl, rfl⟩) (by assumption) ?rest211
          simp only [Act.put, List.setIfInBounds_toArray, List.set_cons_zero, List.set_cons_succ, List.getElem_toArray, List.getElem_cons_zero, List.getElem_cons_succ]
          refine wpAnyH_take (i := 22) (v := undef) rfl (by kernel_rfl) (by kernel_rfl) (by kernel_rfl) (fun _ _ _ h => h) (Or.inr ⟨by rfl, rfl⟩) (by assumption) ?rest212
          simp only [Act.put, List.setIfInBounds_toArray, List.set_cons_zero, List.set_cons_succ, List.getElem_toArray, List.getElem_cons_zero, List.getElem_cons_succ]
          refine wpAnyH_take (i := 23) (v := undef) rfl (by kernel_rfl) (by kernel_rfl) (by kernel_rfl) (fun _ _ _ h => h) (Or.inr ⟨by rfl, rfl⟩) (by assumption) ?rest213
          simp only [Act.put, List.setIfInBounds_toArray, List.set_cons_zero, List.set_cons_succ, List.getElem_toArray, List.getElem_cons_zero, List.getElem_cons_succ]
          refine wpAnyH_take (i := 24) (v := undef) rfl (by kernel_rfl) (by kernel_rfl) (by kernel_rfl) (fun _ _ _ h => h) (Or.inr ⟨by rfl, rfl⟩) (by assumption) ?rest214
          simp only [Act.put, List.setIfInBounds_toArray, List.set_cons_zero, List.set_cons_succ, List.getElem_toArray, List.getElem_cons_zero, List.getElem_cons_succ]
          refine wpAnyH_take (i := 25) (v := undef) rfl (by kernel_rfl) (by kernel_rfl) (by kernel_rfl) (fun _ _ _ h => h) (Or.inr ⟨by rfl, rfl⟩) (by assumption) ?rest215
          simp only [Act.put, List.setIfInBounds_toArray, List.set_cons_zero, List.set_cons_succ, List.getElem_toArray, List.getElem_cons_zero, List.getElem_cons_succ]
          refine wpAnyH_take (i := 20) (v := undef) rfl (by kernel_rfl) (by kernel_rfl) (by kernel_rfl) (fun _ _ _ h => h) (Or.inr ⟨by rfl, rfl⟩) (by assumption) ?rest216
          simp only [Act.put, List.setIfInBounds_toArray, List.set_cons_zero, List.set_cons_succ, List.getElem_toArray, List.getElem_cons_zero, List.getElem_cons_succ]
          refine wpAnyH_take (i := 26) (v := undef) rfl (by kernel_rfl) (by kernel_rfl) (by kernel_rfl) (fun _ _ _ h => h) (Or.inr ⟨by rfl, rfl⟩) (by assumption) ?rest217
          simp only [Act.put, List.setIfInBounds_toArray, List.set_cons_zero, List.set_cons_succ, List.getElem_toArray, List.getElem_cons_zero, List.getElem_cons_succ]
          refine wpAnyH_take (i := 27) (v := undef) rfl (by kernel_rfl) (by kernel_rfl) (by kernel_rfl) (fun _ _ _ h => h) (Or.inr ⟨by rfl, rfl⟩) (by assumption) ?rest218
          simp only [Act.put, List.setIfInBounds_toArray, List.set_cons_zero, List.set_cons_succ, List.getElem_toArray, List.getElem_cons_zero, List.getElem_cons_succ]
          refine wpAnyH_take (i := 28) (v := ?v219) rfl (by kernel_rfl) (by kernel_rfl) (by kernel_rfl) (fun _ _ _ h => h) (Or.inl ⟨by rfl, ?hy219⟩) (by assumption) ?rest219
          case hy219 => (intro w hSw; (try dsimp only at hSw); go_simp; (first | done | with_reducible rfl))
          simp only [Act.put, List.setIfInBounds_toArray, List.set_cons_zero, List.set_cons_succ, List.getElem_toArray, List.getElem_cons_zero, List.getElem_cons_succ]
          refine wpAnyH_take (i := 29) (v := ?v220) rfl (by kernel_rfl) (by kernel_rfl) (by kernel_rfl) (fun _ _ _ h => h) (Or.inl ⟨by rfl, ?hy220⟩) (by assumption) ?rest220
          case hy220 => (intro w hSw; (try dsimp only at hSw); go_simp; (first | done | with_reducible rfl))
          simp only [Act.put, List.setIfInBounds_toArray, List.set_cons_zero, List.set_cons_succ, List.getElem_toArray, List.getElem_cons_zero, List.getElem_cons_succ]
          refine wpAnyH_done (by kernel_rfl) ?_ _
          go_wp2_with fail
          obtain ⟨k0, k1, k4⟩ := hHeld
          refine (HS.out _).mono ?_
          rintro e w7 ⟨rfl, h7⟩
          have hB7 := below_step (below_step hB0 k4) h7
          have d0 := cell_step h7 k0
          have d1 := cell_step h7 k1
          clear k0 k1 k4 h7
          by_cases s0 : 0 < s
          · have f5 : decide (0 < s) = true := by simpa using s0
            have wh : IntKind.i64.wrap (hi - 1) = hi - 1 := IntWalk.i64_in _ (by omega)
            go_wp2_with fail
            refine (HO1.out s0 _ hB7).mono ?_
            rintro e w8 ⟨rfl, h8⟩
            have hB8 := below_step hB7 h8
            have e0 := cell_step h8 d0
            have e1 := cell_step h8 d1
            clear d0 d1 h8
            go_wp2_with fail
            refine (HO2.out s0 _ hB8).mono ?_
            rintro e w9 ⟨rfl, h9⟩
            have hB9 := below_step hB8 h9
            go_wp2_with fail
            refine ⟨⟨j + 1, by omega, by rw [Int.natCast_add]; rfl, ?_⟩, ?_⟩
            · first | exact hB9 | exact hB9.alloc hB9.size _
            · show m - ((j : Int) + 1).toNat < m - ((j : Int)).toNat
              omega
          · have f5 : decide (0 < s) = false := by simpa using s0
            go_wp2_with fail
            refine ⟨⟨j + 1, by omega, by rw [Int.natCast_add]; rfl, ?_⟩, ?_⟩
            · first | exact hB7 | exact hB7.alloc hB7.size _
            · show m - ((j : Int) + 1).toNat < m - ((j : Int)).toNat
              omega
    · have hje : j = m := by omega
      subst hje
      have FA := HFN.out A (by omega)
      have FM := HFN.out (-1) (by omega)
      have FA1 := Lib.hid FA
      have FM1 := Lib.hid FM
      have hl4 : rs.length ≤ 1048576 := by have := HL.out; omega
      clear FA FM
      have U1 := Lib.hid (V1'.out.later hB)
      go_wp2_with fail
      refine (alive_any _).mono ?_
      rintro e w2 ⟨rfl, h2⟩
      have U2 := Lib.hid (U1.out.later h2)
      go_wp2_with fail
      refine (back_any _ rs hl4 _ U2.out).mono ?_
      rintro e w3 ⟨u, rfl, ho3, h3⟩
      have U3 := Lib.hid (U2.out.later h3)
      have X3 := Lib.hid (RangesAt.new ho3)
      clear ho3
      go_wp2_with fail
      refine (refCovers_any A u rs hl4 _ X3.out).mono ?_
      rintro e w4 ⟨rfl, rfl⟩
      rw [CH.out]
      go_wp2_with fail
      refine (of_any A _ rs hl4 _ U3.out).mono ?_
      rintro e w5 ⟨rfl, h5⟩
      rw [FA1.out]
      have U5 := Lib.hid (U3.out.later h5)
      go_wp2_with fail
      refine (of_any (-1) _ rs hl4 _ U5.out).mono ?_
      rintro e w6 ⟨rfl, h6⟩
      rw [FM1.out]
      go_wp2_with fail
      go_ret
      exact ⟨rfl, (h1.trans (hB.mono h1.size)).trans (((((Below.refl _ _).trans h2).trans (h3.mono h2.size)).trans (h5.mono (h2.trans (h3.mono h2.size)).size)).trans (h6.mono ((h2.trans (h3.mono h2.size)).trans (h5.mono (h2.trans (h3.mono h2.size)).size)).size) |>.mono (Nat.le_trans h1.size hB.size))⟩
end Go.Proofs.Ytpdeckmplkmieaa
