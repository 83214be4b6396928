/- Layer 12: SamplerShards. -/
import Derived.Test.YtgkiloidjeahbaaSmpI
import Derived.Test.YtgkiloidjeahbaaAppR
namespace Go.Proofs.Ytgkiloidjeahbaa
open Go.RowKit
set_option linter.unusedVariables false
/-- the pieces from -1 on, one after the other -/
def allL (l : List Int) (k j : Nat) : List Int := if k = 0 then [] else l.take (bnd l.length k (min (j - 1) k)).toNat
theorem allL_zero (l : List Int) (k : Nat) : allL l k 0 = [] := by
  unfold allL
  split
  · rfl
  · rw [Nat.zero_sub, Nat.zero_min, bnd_zero _ _ (by omega)]
    rfl
theorem allL_succ (l : List Int) (k j : Nat) : allL l k (j + 1) = allL l k j ++ pieceL l ((j : Int) - 1) k := by
  by_cases hk : k = 0
  · subst hk
    rw [pieceL_no (by omega)]
    unfold allL
    rw [if_pos rfl, if_pos rfl]
    rfl
  · unfold allL
    rw [if_neg hk, if_neg hk]
    rcases Nat.eq_zero_or_pos j with rfl | hj
    · rw [pieceL_no (by omega), List.append_nil]
    · by_cases hjk : j - 1 < k
      · have e : ((j : Int) - 1) = ((j - 1 : Nat) : Int) := by omega
        rw [e, show min (j - 1) k = j - 1 by omega, pieces_to (by omega), show min (j + 1 - 1) k = j - 1 + 1 by omega]
      · rw [pieceL_no (by omega), List.append_nil, show min (j + 1 - 1) k = min (j - 1) k by omega]
theorem allL_end (l : List Int) (k : Nat) : allL l k (k + 2) = if k = 0 then [] else l := by
  unfold allL
  split
  · rfl
  · next h =>
    rw [show min (k + 2 - 1) k = k by omega]
    exact pieces_all l k (by omega)
theorem allL_length (l : List Int) (k j : Nat) : (allL l k j).length ≤ l.length := by
  unfold allL
  split
  · simp
  · rw [List.length_take]; omega
set_option maxHeartbeats 1000000 in
theorem walk_shards_few (n size steps : Int) (t : Int) (k : Int) (v : Value) (zs : List Int) (w : World) (hv : IntsW .u64 w.heap.size w v zs) (h : ¬ (n ≤ 60 ∧ steps ≤ 60 ∧ (zs.length : Int) ≤ 4000)) :
    Calls Try.prog 4 #[.agg #[.int .i64 n, .int .i64 size, .int .i64 steps, v], .int .i64 t, .int .u8 k] w fun e w' => e = .returned (.bool true) ∧ Below w.heap.size w w' := by
  have AL := (Below.refl w.heap.size w).alloc (Nat.le_refl _) (.cells #[.int .i64 n, .int .i64 size, .int .i64 steps, v] 24)
  have HF := Lib.hid (few_no n size steps v zs _ (hv.later AL) h)
  have R0 := Four.new w (.int .i64 n) (.int .i64 size) (.int .i64 steps) v 24
  obtain ⟨r0, r1, r2, r3, -, -, -, -⟩ := R0
  have HA := Lib.hid AL
  obtain ⟨a, c, rfl⟩ := hv.value
  clear hv h AL
  go_enter Try.func4, Try.ntmps4
  go_wp2_with fail
  refine HF.out.mono ?_
  rintro e w1 ⟨rfl, b1⟩
  have B1 := Lib.hid (below_step HA.out b1)
  clear b1 r0 r1 r2 r3 HF HA
  go_wp2_with fail
  refine (alive_any _).mono ?_
  rintro e w2 ⟨rfl, b2⟩
  have B2 := Lib.hid (below_step B1.out b2)
  clear b2
  go_wp2_with fail
  go_ret
  exact ⟨rfl, B2.out⟩
set_option maxHeartbeats 1000000 in
theorem walk_shards_no (n size steps : Int) (t : Int) (k : Int) (v : Value) (zs : List Int) (w : World) (hv : IntsW .u64 w.heap.size w v zs) (h1 : n ≤ 60) (h2 : steps ≤ 60) (h3 : zs.length ≤ 4000) (hc : codeS n size steps zs.length ≠ 0) :
    Calls Try.prog 4 #[.agg #[.int .i64 n, .int .i64 size, .int .i64 steps, v], .int .i64 t, .int .u8 k] w fun e w' => e = .returned (.bool true) ∧ Below w.heap.size w w' := by
  have AL := (Below.refl w.heap.size w).alloc (Nat.le_refl _) (.cells #[.int .i64 n, .int .i64 size, .int .i64 steps, v] 24)
  have HF := Lib.hid (few_yes n size steps v zs _ (hv.later AL) h1 h2 h3)
  have HS := Lib.hid (fun W h => start_no n size steps h1 h2 v zs W h hc)
  have R0 := Four.new w (.int .i64 n) (.int .i64 size) (.int .i64 steps) v 24
  obtain ⟨r0, r1, r2, r3, -, -, -, -⟩ := R0
  have HA := Lib.hid AL
  have HV := Lib.hid (hv.later AL)
  obtain ⟨a, c, rfl⟩ := hv.value
  clear hv hc AL
  go_enter Try.func4, Try.ntmps4
  go_wp2_with fail
  refine HF.out.mono ?_
  rintro e w1 ⟨rfl, b1⟩
  have B1 := Lib.hid (below_step HA.out b1)
  have V1 := Lib.hid (HV.out.later b1)
  have r0 := cell_step b1 r0
  have r1 := cell_step b1 r1
  have r2 := cell_step b1 r2
  have r3 := cell_step b1 r3
  clear b1 HF HA HV
  go_wp2_with fail
  refine (HS.out _ V1.out).mono ?_
  rintro e w2 ⟨rfl, b2⟩
  have B2 := Lib.hid (below_step B1.out b2)
  clear b2 r0 r1 r2 r3 HS V1
  go_wp2_with fail
  have B3 := Lib.hid (B2.out.alloc B2.out.size (.cells #[.int .i64 0, .int .i64 0, .int .i64 0, .slice none 0 0] 33))
  refine (alive_any _).mono ?_
  rintro e w3 ⟨rfl, b3⟩
  have B4 := Lib.hid (below_step B3.out b3)
  clear b3
  go_wp2_with fail
  go_ret
  exact ⟨by first | rfl | (simp; done), B4.out⟩
theorem equal_list (v u : Value) (zs : List Int) (hl : zs.length ≤ 1048576) (n₁ n₂ : Nat) (w : World) (hv : IntsAt .i64 n₁ w v zs) (hu : IntsAt .i64 n₂ w u zs) :
    Calls Try.prog 10 #[v, u] w fun e w' => e = .returned (.bool true) ∧ Below w.heap.size w w' := equal_same v u zs (by omega) n₁ n₂ w hv hu
set_option maxHeartbeats 4000000 in
theorem walk_shards_yes (n size steps : Int) (t : Int) (ht : -9223372036854775808 ≤ t ∧ t ≤ 9223372036854775807) (k8 : Int) (hk8 : 0 ≤ k8 ∧ k8 ≤ 255) (v : Value) (zs : List Int) (hz : ∀ z ∈ zs, 0 ≤ z ∧ z < 18446744073709551616) (w : World) (hv : IntsW .u64 w.heap.size w v zs) (h1 : n ≤ 60) (h2 : steps ≤ 60) (h3 : zs.length ≤ 4000) (hc : codeS n size steps zs.length = 0) :
    Calls Try.prog 4 #[.agg #[.int .i64 n, .int .i64 size, .int .i64 steps, v], .int .i64 t, .int .u8 k8] w fun e w' => e = .returned (.bool true) ∧ Below w.heap.size w w' := by
  have AL := (Below.refl w.heap.size w).alloc (Nat.le_refl _) (.cells #[.int .i64 n, .int .i64 size, .int .i64 steps, v] 24)
  have HF := Lib.hid (few_yes n size steps v zs _ (hv.later AL) h1 h2 h3)
  have HS := Lib.hid (fun W h => start_yes n size steps h1 h2 v zs W h hz h3 hc)
  have R0 := Four.new w (.int .i64 n) (.int .i64 size) (.int .i64 steps) v 24
  obtain ⟨r0, r1, r2, r3, -, -, -, -⟩ := R0
  have HA := Lib.hid AL
  have HV := Lib.hid (hv.later AL)
  obtain ⟨a, c, rfl⟩ := hv.value
  obtain ⟨k8, rfl⟩ := Int.eq_ofNat_of_zero_le hk8.1
  clear hv hc AL
  go_enter Try.func4, Try.ntmps4
  go_wp2_with fail
  refine HF.out.mono ?_
  rintro e w1 ⟨rfl, b1⟩
  have B1 := Lib.hid (below_step HA.out b1)
  have V1 := Lib.hid (HV.out.later b1)
  have r0 := cell_step b1 r0
  have r1 := cell_step b1 r1
  have r2 := cell_step b1 r2
  have r3 := cell_step b1 r3
  clear b1 HF HA HV
  go_wp2_with fail
  refine (HS.out _ V1.out).mono ?_
  rintro e w2 ⟨n, size, steps, b, v2, rfl, rfl, rfl, hok, rfl, s2, l2, hb, b2⟩
  obtain ⟨a2, k2, c2, rfl⟩ : ∃ a k c, v2 = .slice a k c := by obtain ⟨us, h1, h2, h3⟩ := l2; obtain ⟨a, c, e⟩ := own_value h2; exact ⟨a, _, c, e⟩
  have HR := Lib.hid (hok.right zs)
  have al2 := (Below.refl w2.heap.size w2).alloc (Nat.le_refl _) (.cells #[.int .i64 n, .int .i64 size, .int .i64 steps, .slice a2 k2 c2] 33)
  have B3 := Lib.hid (below_step (below_step B1.out b2) al2)
  have S3 := Lib.hid (s2.later al2)
  have L3 := Lib.hid (l2.later al2)
  have F3 := Four.new w2 (.int .i64 n) (.int .i64 size) (.int .i64 steps) (.slice a2 k2 c2) 33
  have F3 := Lib.hid F3
  clear b2 r0 r1 r2 r3 HS V1 hok s2 l2 al2
  generalize ordTo zs n (cntN n size steps) = ords at *
  have hkm : (k8 : Int).tmod 20 = ((k8 % 20 : Nat) : Int) := by rw [Int.tmod_eq_emod_of_nonneg (by omega)]; exact (Int.natCast_emod _ _).symm
  have hk20 : k8 % 20 < 20 := Nat.mod_lt _ (by omega)
  have uw : IntKind.i64.wrap (k8 : Int) = k8 := IntWalk.i64_in _ (by omega)
  generalize k8 % 20 = k at *
  go_upto_region 7 with fail
  generalize (w2.alloc (.cells #[.int .i64 n, .int .i64 size, .int .i64 steps, .slice a2 k2 c2] 33)) = W3 at *
  generalize w2.heap.size = U at *
  have HL := Lib.hid (batchL_length HR.out t)
  have HAS := Lib.hid (fun j => allL_succ (batchL n size steps ords t) k j)
  have HAE := Lib.hid (allL_end (batchL n size steps ords t) k)
  have HAL := Lib.hid (fun j => allL_length (batchL n size steps ords t) k j)
  have HPL := Lib.hid (fun i => pieceL_length (batchL n size steps ords t) i k)
  have HBA := Lib.hid (fun W h => Batch_any b n size steps ords HR.out t ht W h)
  have HSA := Lib.hid (fun i W h => Shard_any b n size steps ords HR.out t ht i (k : Int) (by omega) W h)
  have HRA := Lib.hid (fun i W h => refShard_any w1.heap.size n size steps ords HR.out (.slice a2 k2 c2) t i (k : Int) (by omega) (by omega) W h)
  have R0 := Lib.hid (show W3.ownsRow W3.heap.size 3 1 (.slice none 0 0) (allL (batchL n size steps ords t) k 0).length ((allL (batchL n size steps ords t) k 0).map (Value.int .i64)) by rw [allL_zero]; exact World.ownsRow_nil _ _ _ _)
  have BB := Lib.hid (Below.refl W3.heap.size W3)
  clear HR
  generalize batchL n size steps ords t = l at *
  go_wp2_with fail
  go_loopw [11, 12, 13] (fun av iv _ wr => ∃ j : Nat, j ≤ k + 2 ∧ iv = .int .i64 ((j : Int) - 1) ∧ Hid (wr.ownsRow W3.heap.size 3 1 av (allL l k j).length ((allL l k j).map (Value.int .i64))) ∧ Hid (Below W3.heap.size W3 wr)) (fun _ iv _ _ => ((k : Int) + 2 - intOf iv).toNat)
  case atStart => exact ⟨0, Nat.zero_le _, rfl, R0, BB⟩
  case round =>
    obtain ⟨j, hj, rfl, HR, HB⟩ := hrel
    by_cases hlt : j < k + 2
    · have S4 := S3.out.later HB.out
      have F4 := F3.out.later HB.out
      have SH := Lib.hid (HSA.out ((j : Int) - 1) wr S4)
      have L4 := Lib.hid (L3.out.later HB.out)
      have hpl := HPL.out ((j : Int) - 1)
      have has := HAS.out j
      have hal := HAL.out j
      have HE := Lib.hid has
      have hll := HL.out
      have hRF := Lib.hid (HRA.out ((j : Int) - 1))
      obtain ⟨m0, m1, m2, m3, -, -, -, -⟩ := F4
      clear S4 has
      generalize pieceL l ((j : Int) - 1) k = p at *
      go_wp2_with fail
      refine SH.out.mono ?_
      rintro e w5 ⟨u5, rfl, o5, b5⟩
      have m0 := cell_step b5 m0
      have m1 := cell_step b5 m1
      have m2 := cell_step b5 m2
      have m3 := cell_step b5 m3
      have RS := Lib.hid (hRF.out w5 (L4.out.later b5))
      have A5 := Lib.hid (own_below HR.out b5)
      have O5 := Lib.hid o5
      have B5 := Lib.hid (HB.out.trans (b5.mono HB.out.size))
      obtain ⟨a5, c5, rfl⟩ := own_value o5
      clear o5 b5 SH L4 hRF HR HB
      go_wp2_with fail
      refine RS.out.mono ?_
      rintro e w6 ⟨u6, rfl, i6, b6⟩
      have A6 := Lib.hid (own_below A5.out b6)
      have O6 := Lib.hid (own_below O5.out b6)
      have B6 := Lib.hid (B5.out.trans (b6.mono B5.out.size))
      have HEQ := Lib.hid (equal_list _ _ p (by omega) _ _ _ (ints_own O6.out) i6)
      obtain ⟨a6, c6, rfl⟩ := ints_value i6
      clear m0 m1 m2 m3 i6 b6 RS A5 O5 B5
      go_wp2_with fail
      refine HEQ.out.mono ?_
      rintro e w7 ⟨rfl, b7⟩
      have A7 := Lib.hid (own_below A6.out b7)
      have O7 := Lib.hid (own_below O6.out b7)
      have B7 := Lib.hid (B6.out.trans (b7.mono B6.out.size))
      have SR := Lib.hid (own_src O7.out)
      have hs7 : W3.heap.size ≤ w7.heap.size := B7.out.size
      clear b7 HEQ A6 O6 B6
      go_wp2_with (at_builtin; refine append_list elemI rfl _ _ rfl rfl rfl A7.out (by simp) SR.out ints_one ?_ ?_ hs7 ?_; (unfold maxLen; omega); omega; intro v' w8 ho' hg'; have O8 := Lib.hid ho'; have HB8 := Lib.hid (B7.out.grown hg' hs7 (fun q e => (A7.out.lt q e).1)); clear ho' hg')
      go_roundw
      case rel => exact ⟨j + 1, by omega, by go_num, by rw [HE.out, List.length_append, List.map_append]; exact O8, HB8⟩
      case measure => simp [intOf]; omega
    · have hje : j = k + 2 := by omega
      subst hje
      have HRR := HR.out
      rw [HAE.out] at HRR
      obtain ⟨a9, c9, rfl⟩ := own_value HRR
      have S9 := Lib.hid (S3.out.later HB.out)
      have B9 := Lib.hid (below_step B3.out HB.out)
      have hl20 := HL.out
      have HRH := Lib.hid HRR
      clear HRR HR HB HSA HRA HPL HAL HAS HAE R0 BB S3 L3 F3 B3
      by_cases hk0 : k = 0
      · subst hk0
        rw [if_pos rfl] at HRH ⊢
        have HA := Lib.hid (fun W => alive_any W)
        go_wp2_with fail
        refine (HA.out _).mono ?_
        rintro e w6 ⟨rfl, b6⟩
        have B6 := Lib.hid (below_step B9.out b6)
        clear b6
        go_wp2_with fail
        go_ret
        exact ⟨by first | rfl | (simp; done), B6.out⟩
      · rw [if_neg hk0] at HRH ⊢
        have g1 : ((k : Int) == 0) = false := by simp; omega
        have g2 : decide ((0 : Int) < k) = true := by simp; omega
        have g3 : 0 < k := by omega
        go_wp2_with fail
        refine (alive_any _).mono ?_
        rintro e w6 ⟨rfl, b6⟩
        have B6 := Lib.hid (below_step B9.out b6)
        have S6 := Lib.hid (S9.out.later b6)
        have R6 := Lib.hid (own_below HRH.out b6)
        clear b6 S9 B9 HRH
        go_wp2_with fail
        refine (HBA.out _ S6.out).mono ?_
        rintro e w7 ⟨v7, rfl, o7, b7⟩
        have B7 := Lib.hid (below_step B6.out b7)
        have R7 := Lib.hid (own_below R6.out b7)
        have HQ := Lib.hid (equal_list _ _ l hl20 _ _ _ (ints_own R7.out) (ints_own o7))
        obtain ⟨a7, c7, rfl⟩ := own_value o7
        clear o7 b7 S6 B6 R6 HBA
        go_wp2_with fail
        refine HQ.out.mono ?_
        rintro e w8 ⟨rfl, b8⟩
        have B8 := Lib.hid (below_step B7.out b8)
        clear b8
        go_wp2_with fail
        go_ret
        exact ⟨by first | rfl | (simp; done), B8.out⟩
theorem walk_shards (n size steps : Int) (t : Int) (ht : -9223372036854775808 ≤ t ∧ t ≤ 9223372036854775807) (k8 : Int) (hk8 : 0 ≤ k8 ∧ k8 ≤ 255) (v : Value) (zs : List Int) (hz : ∀ z ∈ zs, 0 ≤ z ∧ z < 18446744073709551616) (w : World) (hv : IntsW .u64 w.heap.size w v zs) :
    Calls Try.prog 4 #[.agg #[.int .i64 n, .int .i64 size, .int .i64 steps, v], .int .i64 t, .int .u8 k8] w fun e w' => e = .returned (.bool true) ∧ Below w.heap.size w w' := by
  by_cases hf : n ≤ 60 ∧ steps ≤ 60 ∧ (zs.length : Int) ≤ 4000
  · by_cases hc : codeS n size steps zs.length = 0
    · exact walk_shards_yes n size steps t ht k8 hk8 v zs hz w hv hf.1 hf.2.1 (by omega) hc
    · exact walk_shards_no n size steps t k8 v zs w hv hf.1 hf.2.1 (by omega) hc
  · exact walk_shards_few n size steps t k8 v zs w hv hf
end Go.Proofs.Ytgkiloidjeahbaa
