/- Layer 16: few vectors, copies; marks of lists that are joined or changed. -/
import Derived.Test.YtplobfiopbncpaaDoorMrkV
import Derived.Test.YtplobfiopbncpaaDoorVecM
import Derived.Laws.AppendOwnNone
import Derived.LoopN
import Derived.OwnWalk
namespace Go.Proofs.YtplobfiopbncpaaDoor
open Go.RowKit
set_option linter.unusedVariables false
set_option maxHeartbeats 1000000 in
theorem few_any (v : Value) (zss : List (List Int)) (hl : zss.length ≤ maxLen) (hm : ∀ zs ∈ zss, zs.length ≤ maxLen) (n₀ : Nat) (w : World) (hv : RowsAt .i64 n₀ w v zss) :
    Calls Tryd.prog 19 #[v] w fun e w' => e = .returned (.bool (fewB zss)) ∧ w = w' := by
  unfold maxLen at hl hm
  obtain ⟨av, cv, rfl⟩ := hv.value
  have HV := Lib.hid hv
  have HM := Lib.hid hm
  clear hv hm
  go_enter Tryd.func19, Tryd.ntmps19
  go_wp2
  go_loop [3, 4] (fun n i => ∃ k : Nat, k ≤ zss.length ∧ k ≤ 100 ∧ i = .int .i64 k ∧ n = .int .i64 (lens (zss.take k))) (fun _ i => zss.length - (intOf i).toNat)
  case atStart => exact ⟨0, Nat.zero_le _, by omega, rfl, rfl⟩
  case round =>
    obtain ⟨k, hk, hk', rfl, rfl⟩ := hrel
    have hle := lens_le (zss.take k)
    rw [List.length_take] at hle
    by_cases h1 : k < zss.length ∧ k < 100
    · obtain ⟨h1, h2⟩ := h1
      rcases HV.out.form with ⟨_, e0⟩ | ⟨b, off, c', e0, hcap, hg, hcs⟩
      · rw [e0] at h1; simp at h1
      cases e0
      obtain ⟨a, c, hc, _⟩ := hcs k h1
      have hlen := HM.out (zss[k]?.getD []) (by rw [List.getElem?_eq_getElem h1]; exact List.getElem_mem h1)
      have HT := Lib.hid (lens_take zss k h1)
      clear hcs
      generalize (zss[k]?.getD []).length = m at *
      generalize lens (zss.take k) = n at *
      have i0 : (0 : Int) ≤ (n : Int) := by omega
      have i1 : (n : Int) ≤ 200000 := by omega
      have g1 : decide ((k : Int) < (zss.length : Int)) = true := by simp; omega
      have g2 : decide ((k : Int) < 100) = true := by simp; omega
      have i2 : (k : Int) < (zss.length : Int) := by omega
      by_cases hm2 : m ≤ 2000
      · have e1 : min (m : Int) 2000 = m := by omega
        have e2 := Lib.hid (show min m 2000 = m by omega)
        go_wp2
        go_round
        case rel => exact ⟨k + 1, by omega, by omega, by go_num, by rw [HT.out, e2.out]; go_num⟩
        case measure => simp [intOf]; omega
      · have e1 : min (m : Int) 2000 = 2000 := by omega
        have e2 := Lib.hid (show min m 2000 = 2000 by omega)
        go_wp2
        go_round
        case rel => exact ⟨k + 1, by omega, by omega, by go_num, by rw [HT.out, e2.out]; go_num⟩
        case measure => simp [intOf]; omega
    · have HF1 : Hid (zss.length ≤ 60 → fewB zss = decide ((lens (zss.take k) : Int) ≤ 1500)) := by
        refine Lib.hid (fun hz => ?_)
        unfold fewB
        rw [List.take_of_length_le (by omega), List.take_of_length_le (by omega), decide_eq_true hz, Bool.true_and, decide_eq_decide]
        omega
      have HF2 : Hid (60 < zss.length → fewB zss = false) := Lib.hid (fun hz => by unfold fewB; rw [decide_eq_false (by omega), Bool.false_and])
      have hx : k = zss.length ∨ (k < zss.length ∧ k = 100) := by omega
      clear h1
      generalize lens (zss.take k) = n at *
      rcases hx with rfl | ⟨h1, rfl⟩
      · by_cases hz : zss.length ≤ 60
        · have g1 : (zss.length : Int) ≤ 60 := by omega
          have HF := Lib.hid (HF1.out hz)
          clear hz HF1 HF2
          go_wp2
          go_ret
          exact ⟨ret_b HF.out.symm, rfl⟩
        · have g1 : ¬ (zss.length : Int) ≤ 60 := by omega
          have HF := Lib.hid (HF2.out (by omega))
          clear hz HF1 HF2
          go_wp2
          go_ret
          exact ⟨ret_b HF.out.symm, rfl⟩
      · have g1 : ¬ (zss.length : Int) ≤ 60 := by omega
        have HF := Lib.hid (HF2.out (by omega))
        clear HF1 HF2
        go_wp2
        go_ret
        exact ⟨ret_b HF.out.symm, rfl⟩
/-- a new slice of slices -/
theorem RowsAt.fresh {q : IntKind} {w : World} {cs : Array Value} {e : TypeId} {zss : List (List Int)} (hl : cs.toList.length = zss.length) (h : ∀ (j : Nat) (u : Value) (zs : List Int), cs.toList[j]? = some u → zss[j]? = some zs → IntsW q w.heap.size w u zs) :
    RowsAt q (w.alloc (.cells cs e)).heap.size (w.alloc (.cells cs e)) (.slice (some ⟨w.heap.size, 0, none⟩) zss.length zss.length) zss := by
  refine ⟨cs.toList, hl, SliceAt.fresh (by rw [hl]; omega) rfl, fun j u zs hu hz => ?_⟩
  have hb := (Below.refl w.heap.size w).alloc (Nat.le_refl _) (.cells cs e)
  exact ((h j u zs hu hz).below hb).grow hb.size
theorem rows_two {q : IntKind} {w : World} {u1 u2 : Value} {e : TypeId} {z1 z2 : List Int} (h1 : IntsW q w.heap.size w u1 z1) (h2 : IntsW q w.heap.size w u2 z2) :
    RowsAt q (w.alloc (.cells #[u1, u2] e)).heap.size (w.alloc (.cells #[u1, u2] e)) (.slice (some ⟨w.heap.size, 0, none⟩) 2 2) [z1, z2] := by
  refine RowsAt.fresh (zss := [z1, z2]) rfl fun j u zs hu hz => ?_
  rcases j with _ | _ | j
  · cases hu; cases hz; exact h1
  · cases hu; cases hz; exact h2
  · simp at hu
theorem rows_one {q : IntKind} {w : World} {u1 : Value} {e : TypeId} {z1 : List Int} (h1 : IntsW q w.heap.size w u1 z1) :
    RowsAt q (w.alloc (.cells #[u1] e)).heap.size (w.alloc (.cells #[u1] e)) (.slice (some ⟨w.heap.size, 0, none⟩) 1 1) [z1] := by
  refine RowsAt.fresh (zss := [z1]) rfl fun j u zs hu hz => ?_
  rcases j with _ | j
  · cases hu; cases hz; exact h1
  · simp at hu
theorem elemV : Elem Tryd.prog 22 2 (.int .i64 0) 1 8 := ⟨Tryd.underlying22, info_parts (by kernel_rfl), rfl, by decide⟩
theorem refClone_any (v : Value) (zs : List Int) (hm : zs.length * 8 ≤ 140737488351232) (n₀ : Nat) (w : World) (hL : IntsW .i64 n₀ w v zs) :
    Calls Tryd.prog 20 #[v] w (ClonedTo 2 1 zs.length (zs.map (Value.int .i64)) w) := by
  obtain ⟨i0, hi, hz0, hz1, hz2⟩ := elemV.hi
  have HO := Lib.hid (World.ownsRow_made (base := w.heap.size) (e := 2) (size := 1) w #[] 0 (Nat.le_refl _) (Nat.zero_le _) (by simp))
  rcases hL.src with ⟨rfl, rfl⟩ | ⟨ad, c, rfl, hc⟩
  · clear hL
    go_enter Tryd.func20, Tryd.ntmps20
    go_wp2_with (at_builtin; refine wpList_append_own_none rfl _ _ 22 rfl w.heap.size 2 i0 1 Tryd.underlying22 hi _ _ _ rfl HO.out rfl ?_)
    go_ret
    refine ⟨_, rfl, HO.out, ?_⟩
    exact (Below.refl w.heap.size w).alloc (Nat.le_refl _) _
  · clear hL
    have HC := Lib.hid hc
    clear hc
    go_enter Tryd.func20, Tryd.ntmps20
    go_wp2_with (at_builtin; refine wpList_append_own _ rfl _ _ 22 rfl w.heap.size 2 i0 (.int .i64 0) 1 8 Tryd.underlying22 hi hz0 hz1 hz2 rfl (by decide) _ _ _ rfl HO.out ad zs.length c (zs.map (Value.int .i64)) rfl ?c0 ?c1 ?c2 ?c3 ?c4 ?c5 ?_; (case c0 => simp); (case c1 => intro j u hj; exact cell_step ((Below.refl _ _).alloc (Nat.le_refl _) _) (HC.out j u hj)); (case c2 => intro u hu; simp only [List.mem_map] at hu; obtain ⟨z, _, rfl⟩ := hu; rfl); (case c3 => unfold maxLen; omega); (case c4 => omega); (case c5 => simp); intro v' w1 hown1 hgrow1 _; have hg1 := Lib.hid hgrow1; have ho1 := Lib.hid hown1; clear hgrow1 hown1)
    go_ret
    refine ⟨_, rfl, by simpa using ho1.out, ?_⟩
    exact ((Below.refl w.heap.size w).alloc (Nat.le_refl _) _).grown hg1.out (by simp) (fun k e => (HO.out.lt k e).1)
theorem List.set_map_eq (zs : List Int) (k : Nat) (x : Int) (q : IntKind) : (zs.map (Value.int q)).set k (.int q x) = (zs.set k x).map (Value.int q) := (List.map_set).symm
theorem trn_add (a b c d n : Int) : trnR (a + c) (b + d) n = trnR a b n + trnR c d n ∧ trnI (a + c) (b + d) n = trnI a b n + trnI c d n := by
  unfold trnR trnI
  rw [Int.add_mul, Int.add_mul, Int.add_mul, Int.add_mul]
  omega
theorem trn_comp (x y n k : Int) : trnR (trnR x y k) (trnI x y k) n = trnR x y (n + k) ∧ trnI (trnR x y k) (trnI x y k) n = trnI x y (n + k) := by
  unfold trnR trnI powR powI
  rcases (show n % 4 = 0 ∨ n % 4 = 1 ∨ n % 4 = 2 ∨ n % 4 = 3 by omega) with h | h | h | h <;> rcases (show k % 4 = 0 ∨ k % 4 = 1 ∨ k % 4 = 2 ∨ k % 4 = 3 by omega) with h' | h' | h' | h' <;>
    (have e : (n + k) % 4 = (n % 4 + k % 4) % 4 := by omega
     rw [h, h'] at e
     simp [h, h', e])
theorem acc_prefix (xs ys : List Int) : ∀ k : Nat, k ≤ xs.length → accR (xs ++ ys) k = accR xs k ∧ accI (xs ++ ys) k = accI xs k
  | 0, _ => ⟨rfl, rfl⟩
  | k + 1, h => by
    obtain ⟨h1, h2⟩ := acc_prefix xs ys k (by omega)
    have e : (xs ++ ys)[k]? = xs[k]? := List.getElem?_append_left (by omega)
    unfold accR accI
    rw [h1, h2, e]
    exact ⟨rfl, rfl⟩
theorem acc_append (xs ys : List Int) : ∀ k : Nat, accR (xs ++ ys) (xs.length + k) = accR xs xs.length + trnR (accR ys k) (accI ys k) xs.length ∧ accI (xs ++ ys) (xs.length + k) = accI xs xs.length + trnI (accR ys k) (accI ys k) xs.length
  | 0 => by
    have h := acc_prefix xs ys xs.length (Nat.le_refl _)
    have z : trnR (accR ys 0) (accI ys 0) xs.length = 0 ∧ trnI (accR ys 0) (accI ys 0) xs.length = 0 := by
      unfold accR accI trnR trnI
      rw [Int.zero_mul, Int.zero_mul]
      exact ⟨rfl, rfl⟩
    rw [Nat.add_zero, h.1, h.2, z.1, z.2, Int.add_zero, Int.add_zero]
    exact ⟨rfl, rfl⟩
  | k + 1 => by
    obtain ⟨h1, h2⟩ := acc_append xs ys k
    have e : (xs ++ ys)[xs.length + k]? = ys[k]? := by rw [List.getElem?_append_right (by omega)]; congr 1; omega
    have c := trn_comp (lowI (ys[k]?.getD 0)) 0 (xs.length : Int) (k : Int)
    have a := trn_add (accR ys k) (accI ys k) (trnR (lowI (ys[k]?.getD 0)) 0 k) (trnI (lowI (ys[k]?.getD 0)) 0 k) (xs.length : Int)
    have n : ((xs.length + k : Nat) : Int) = (xs.length : Int) + (k : Int) := by omega
    show accR (xs ++ ys) (xs.length + k) + trnR (lowI ((xs ++ ys)[xs.length + k]?.getD 0)) 0 ((xs.length + k : Nat) : Int) = accR xs xs.length + trnR (accR ys k + trnR (lowI (ys[k]?.getD 0)) 0 k) (accI ys k + trnI (lowI (ys[k]?.getD 0)) 0 k) xs.length ∧ accI (xs ++ ys) (xs.length + k) + trnI (lowI ((xs ++ ys)[xs.length + k]?.getD 0)) 0 ((xs.length + k : Nat) : Int) = accI xs xs.length + trnI (accR ys k + trnR (lowI (ys[k]?.getD 0)) 0 k) (accI ys k + trnI (lowI (ys[k]?.getD 0)) 0 k) xs.length
    rw [e, h1, h2, n, ← c.1, ← c.2, a.1, a.2]
    omega
theorem acc_set (xs : List Int) (k : Nat) (z : Int) (hk : k < xs.length) : ∀ n : Nat, accR (xs.set k z) n = accR xs n + (if k < n then trnR (lowI z) 0 k - trnR (lowI (xs[k]?.getD 0)) 0 k else 0) ∧ accI (xs.set k z) n = accI xs n + (if k < n then trnI (lowI z) 0 k - trnI (lowI (xs[k]?.getD 0)) 0 k else 0)
  | 0 => by simp [accR, accI]
  | n + 1 => by
    obtain ⟨h1, h2⟩ := acc_set xs k z hk n
    unfold accR accI
    rw [h1, h2]
    by_cases e : k = n
    · subst e
      have g : (xs.set k z)[k]? = some z := List.getElem?_set_self hk
      rw [g, if_neg (by omega), if_pos (by omega), if_neg (by omega), if_pos (by omega)]
      simp only [Option.getD_some]
      omega
    · have g : (xs.set k z)[n]? = xs[n]? := List.getElem?_set_ne e
      rw [g]
      by_cases l : k < n
      · rw [if_pos l, if_pos (by omega), if_pos l, if_pos (by omega)]; omega
      · rw [if_neg l, if_neg (by omega), if_neg l, if_neg (by omega)]; omega
theorem trn_ne {a b : Int} (h : a ≠ b) (k : Int) : trnR a 0 k ≠ trnR b 0 k ∨ trnI a 0 k ≠ trnI b 0 k := by
  unfold trnR trnI powR powI
  rcases (show k % 4 = 0 ∨ k % 4 = 1 ∨ k % 4 = 2 ∨ k % 4 = 3 by omega) with h' | h' | h' | h' <;> simp [h'] <;> omega
theorem low_ne (x c : Int) (h1 : 1 ≤ c) (h2 : c ≤ 65535) : lowI (wrap64 (x + c)) ≠ lowI x := by
  unfold lowI wrap64
  omega
theorem acc_ne (xs : List Int) (k : Nat) (c : Int) (hk : k < xs.length) (h1 : 1 ≤ c) (h2 : c ≤ 65535) :
    accR (xs.set k (wrap64 (xs[k]?.getD 0 + c))) xs.length ≠ accR xs xs.length ∨ accI (xs.set k (wrap64 (xs[k]?.getD 0 + c))) xs.length ≠ accI xs xs.length := by
  obtain ⟨e1, e2⟩ := acc_set xs k (wrap64 (xs[k]?.getD 0 + c)) hk xs.length
  rw [e1, e2, if_pos hk, if_pos hk]
  have := trn_ne (low_ne (xs[k]?.getD 0) c h1 h2) k
  omega
end Go.Proofs.YtplobfiopbncpaaDoor
