/- Layer 15: the number of messages. -/
import Derived.Test.YtpghiebedjogpaaBucF
namespace Go.Proofs.Ytpghiebedjogpaa
open Go.RowKit
set_option linter.unusedVariables false
def msgR (rs : List (Int × Int)) (s : Int) : Int := (rs.map fun r => cntB (r.2 - r.1) s).sum
theorem msgR_snoc (rs : List (Int × Int)) (r : Int × Int) (s : Int) : msgR (rs ++ [r]) s = msgR rs s + cntB (r.2 - r.1) s := by simp [msgR, List.sum_append]
theorem msgR_shift (rs : List (Int × Int)) (b s : Int) : msgR (shiftR rs b) s = msgR rs s := by
  unfold msgR shiftR
  rw [List.map_map]
  congr 1
  apply List.map_congr_left
  intro r _
  show cntB (r.2 + b - (r.1 + b)) s = _
  rw [show r.2 + b - (r.1 + b) = r.2 - r.1 by omega]
/-- ranges that are not negative, and not long -/
def Fine (rs : List (Int × Int)) : Prop := ∀ r ∈ rs, 0 ≤ r.1 ∧ r.1 ≤ r.2 ∧ r.2 ≤ 1048576
theorem msgR_bound (rs : List (Int × Int)) (s : Int) (h : ∀ r ∈ rs, r.2 - r.1 ≤ 1048576) : 0 ≤ msgR rs s ∧ msgR rs s ≤ rs.length * 1048576 := by
  induction rs with
  | nil => simp [msgR]
  | cons r rs ih =>
    have h1 := ih (fun x hx => h x (by simp [hx]))
    have h2 := cntB_range (r.2 - r.1) s
    have h3 := h r (by simp)
    have e : msgR (r :: rs) s = cntB (r.2 - r.1) s + msgR rs s := by simp [msgR]
    rw [e, List.length_cons]
    omega
theorem fine_even (n k : Int) (hn1 : n ≤ 1048576) : Fine (evenR n k) := by
  intro r hr
  by_cases h : 0 ≤ n ∧ 0 < k
  · rw [evenR_in n k h.1 h.2] at hr
    simp only [List.mem_map, List.mem_range] at hr
    obtain ⟨i, hi, rfl⟩ := hr
    have b0 := bnd_range n k i h.1 h.2 (by omega)
    have b1 := bnd_range n k (i + 1) h.1 h.2 (by omega)
    have b2 := bnd_mono n k i h.1 h.2
    dsimp only
    omega
  · rw [evenR_out n k (by omega)] at hr
    cases hr
theorem fine_seg (lo hi k : Int) (h0 : 0 ≤ lo) (h1 : lo ≤ hi) (h2 : hi ≤ 1048576) : Fine (segR lo hi k) := by
  intro r hr
  unfold segR shiftR at hr
  simp only [List.mem_map] at hr
  obtain ⟨x, hx, rfl⟩ := hr
  have hf := fine_even (hi - lo) k (by omega) x hx
  have hn : x.2 ≤ hi - lo := by
    by_cases h : 0 ≤ hi - lo ∧ 0 < k
    · rw [evenR_in _ k h.1 h.2] at hx
      simp only [List.mem_map, List.mem_range] at hx
      obtain ⟨i, hi', rfl⟩ := hx
      exact (bnd_range _ k (i + 1) h.1 h.2 (by omega)).2
    · rw [evenR_out _ k (by omega)] at hx
      cases hx
  dsimp only
  omega
theorem chuR_length (lo hi s : Int) : ((chuR lo hi s).length : Int) = cntB (hi - lo) s := by
  unfold chuR
  rw [shiftR_length, blocksR, blTo_length]
  have := (cntB_range (hi - lo) s).1
  omega
set_option maxHeartbeats 2000000 in
theorem messages_any (lo hi k s : Int) (h0 : 0 ≤ lo) (h1 : lo ≤ hi) (h2 : hi ≤ 1048576) (hk0 : -9223372036854775808 ≤ k) (hk1 : k ≤ 1048576) (hs0 : -9223372036854775808 ≤ s) (hs1 : s ≤ 9223372036854775807) (w : World) :
    Calls Try.prog 19 #[.agg #[.int .i64 lo, .int .i64 hi], .int .i64 k, .int .i64 s] w fun e w' => e = .returned (.int .i64 (msgR (segR lo hi k) s)) ∧ Below w.heap.size w w' := by
  have HF := Lib.hid (fine_even (hi - lo) k (by omega))
  have HLn := Lib.hid (show (evenR (hi - lo) k).length ≤ 1048576 from evenR_le _ _ (by omega))
  have HE := Lib.hid (fun W => even_any (hi - lo) k (by omega) (by omega) (by omega) hk0 W)
  have HS := Lib.hid (fun W => size_any lo hi (by omega) (by omega) (by omega) (by omega) W)
  rw [size_is lo hi h1] at HS
  rw [show msgR (segR lo hi k) s = msgR (evenR (hi - lo) k) s from msgR_shift _ _ _]
  generalize evenR (hi - lo) k = rs at *
  have HR := Lib.hid (show msgR rs s = msgR (rs.take rs.length) s by rw [List.take_length])
  generalize hRV : msgR rs s = RV at HR ⊢
  have AL := (Below.refl w.heap.size w).alloc (Nat.le_refl _) (.cells #[.int .i64 lo, .int .i64 hi] 33)
  have q := cells_two w (.int .i64 lo) (.int .i64 hi) 33
  go_enter Try.func19, Try.ntmps19
  go_wp2_with fail
  generalize w.alloc (.cells #[.int .i64 lo, .int .i64 hi] 33) = W0 at *
  obtain ⟨q0, q1⟩ := q
  go_wp2_with fail
  refine (HS.out _).mono ?_
  rintro e w1 ⟨rfl, b1⟩
  have B1 := below_step AL b1
  go_wp2_with fail
  refine (HE.out _).mono ?_
  rintro e w2 ⟨v, rfl, ho, b2⟩
  have HV := Lib.hid (RangesAt.new ho)
  obtain ⟨a, c, rfl⟩ := own_value ho
  have B2 := Lib.hid (below_step B1 b2)
  clear ho b1 b2 q0 q1 AL B1
  go_wp2_with fail
  go_loopw [7, 9, 15] (fun t _ i wr => ∃ j : Nat, j ≤ rs.length ∧ i = .int .i64 j ∧ t = .int .i64 (msgR (rs.take j) s) ∧ Below w2.heap.size w2 wr) (fun _ _ i _ => rs.length - (intOf i).toNat)
  case atStart => exact ⟨0, Nat.zero_le _, rfl, rfl, Below.refl _ _⟩
  case round =>
    obtain ⟨j, hj, rfl, rfl, hB⟩ := hrel
    have hbd := msgR_bound (rs.take j) s (fun r hr => by have := HF.out r (List.mem_of_mem_take hr); omega)
    rw [List.length_take, Nat.min_eq_left hj] at hbd
    have hll := HLn.out
    by_cases hlt : j < rs.length
    · rcases HV.out.form with ⟨_, e0⟩ | ⟨b, off, cap, e0, _, hb, hcs⟩
      · rw [e0] at hlt; cases hlt
      cases e0
      have c0 := (hB.cell (p := ⟨b, off + j * 2, none⟩) hb).trans (hcs j hlt).1
      have c1 := (hB.cell (p := ⟨b, off + j * 2 + 1, none⟩) hb).trans (hcs j hlt).2
      have hf := HF.out rs[j] (List.getElem_mem hlt)
      have ht := take_snoc_r rs j hlt
      have hbw : b < wr.heap.size := World.block_lt_of_cell? _ _ c0
      generalize rs[j].1 = x at c0 hf ht
      generalize rs[j].2 = y at c1 hf ht
      have hsn : msgR (rs.take (j + 1)) s = msgR (rs.take j) s + cntB (y - x) s := by rw [ht]; exact msgR_snoc _ _ _
      have hc := cntB_range (y - x) s
      have HSZ := Lib.hid (fun W => size_any x y (by omega) (by omega) (by omega) (by omega) W)
      rw [size_is x y hf.2.1] at HSZ
      have HC := Lib.hid (fun W => count_any (y - x) s (by omega) (by omega) hs0 hs1 W)
      have HSN := Lib.hid hsn
      have HB := Lib.hid hB
      clear hcs ht hsn hB
      generalize msgR (rs.take j) s = T at *
      generalize cntB (y - x) s = C at *
      obtain ⟨hc1, hc2⟩ := hc
      go_wp2_with fail
      refine (HSZ.out _).mono ?_
      rintro e w3 ⟨rfl, b3⟩
      have B3 := Lib.hid (below_step (HB.out.alloc HB.out.size (.cells #[.int .i64 x, .int .i64 y] 33)) b3)
      clear b3
      go_wp2_with fail
      refine (HC.out _).mono ?_
      rintro e w4 ⟨rfl, rfl⟩
      go_wp2_with fail
      go_roundw
      case rel => exact ⟨j + 1, by omega, by go_num, by rw [HSN.out], B3.out⟩
      case measure => simp [intOf]; omega
    · have hj' : j = rs.length := by omega
      subst hj'
      have HB := Lib.hid hB
      clear hB hbd
      go_wp2_with fail
      go_ret
      exact ⟨by rw [HR.out]; rfl, below_step B2.out HB.out⟩
set_option maxHeartbeats 2000000 in
theorem refMessages_any (lo hi k s : Int) (h0 : 0 ≤ lo) (h1 : lo ≤ hi) (h2 : hi ≤ 1048576) (hk0 : -9223372036854775808 ≤ k) (hk1 : k ≤ 1048576) (hs0 : -9223372036854775808 ≤ s) (hs1 : s ≤ 9223372036854775807) (w : World) :
    Calls Try.prog 20 #[.agg #[.int .i64 lo, .int .i64 hi], .int .i64 k, .int .i64 s] w fun e w' => e = .returned (.int .i64 (msgR (segR lo hi k) s)) ∧ Below w.heap.size w w' := by
  have HF := Lib.hid (fine_seg lo hi k h0 h1 h2)
  have HLn := Lib.hid (segR_le lo hi k (by omega))
  have HE := Lib.hid (fun W => refSegments_any lo hi k h0 h1 h2 hk0 hk1 W)
  generalize segR lo hi k = rs at *
  have HR := Lib.hid (show msgR rs s = msgR (rs.take rs.length) s by rw [List.take_length])
  generalize hRV : msgR rs s = RV at HR ⊢
  have AL := (Below.refl w.heap.size w).alloc (Nat.le_refl _) (.cells #[.int .i64 lo, .int .i64 hi] 26)
  have q := cells_two w (.int .i64 lo) (.int .i64 hi) 26
  go_enter Try.func20, Try.ntmps20
  go_wp2_with fail
  generalize w.alloc (.cells #[.int .i64 lo, .int .i64 hi] 26) = W0 at *
  obtain ⟨q0, q1⟩ := q
  go_wp2_with fail
  refine (HE.out _).mono ?_
  rintro e w2 ⟨v, rfl, ho, b2⟩
  have HV := Lib.hid (RangesAt.new ho)
  obtain ⟨a, c, rfl⟩ := own_value ho
  have B2 := Lib.hid (below_step AL b2)
  clear ho b2 q0 q1 AL
  go_wp2_with fail
  go_loopw [8, 9] (fun t i wr => ∃ j : Nat, j ≤ rs.length ∧ i = .int .i64 j ∧ t = .int .i64 (msgR (rs.take j) s) ∧ Below w2.heap.size w2 wr) (fun _ i _ => rs.length - (intOf i).toNat)
  case atStart => exact ⟨0, Nat.zero_le _, rfl, rfl, Below.refl _ _⟩
  case round =>
    obtain ⟨j, hj, rfl, rfl, hB⟩ := hrel
    have hbd := msgR_bound (rs.take j) s (fun r hr => by have := HF.out r (List.mem_of_mem_take hr); omega)
    rw [List.length_take, Nat.min_eq_left hj] at hbd
    have hll := HLn.out
    by_cases hlt : j < rs.length
    · rcases HV.out.form with ⟨_, e0⟩ | ⟨b, off, cap, e0, _, hb, hcs⟩
      · rw [e0] at hlt; cases hlt
      cases e0
      have c0 := (hB.cell (p := ⟨b, off + j * 2, none⟩) hb).trans (hcs j hlt).1
      have c1 := (hB.cell (p := ⟨b, off + j * 2 + 1, none⟩) hb).trans (hcs j hlt).2
      have hf := HF.out rs[j] (List.getElem_mem hlt)
      have ht := take_snoc_r rs j hlt
      generalize rs[j].1 = x at c0 hf ht
      generalize rs[j].2 = y at c1 hf ht
      have hsn : msgR (rs.take (j + 1)) s = msgR (rs.take j) s + cntB (y - x) s := by rw [ht]; exact msgR_snoc _ _ _
      have hc := cntB_range (y - x) s
      have HC := Lib.hid (fun W => refChunks_any x y s hf.1 hf.2.1 hf.2.2 hs0 hs1 W)
      have hcl := chuR_length x y s
      rw [← hcl] at hsn hc
      generalize chuR x y s = cs at *
      have HSN := Lib.hid hsn
      have HB := Lib.hid hB
      clear hcs ht hsn hB hcl
      generalize msgR (rs.take j) s = T at *
      obtain ⟨hc1, hc2⟩ := hc
      go_wp2_with fail
      refine (HC.out _).mono ?_
      rintro e w3 ⟨u, rfl, ho3, b3⟩
      have B3 := Lib.hid (below_step HB.out b3)
      obtain ⟨a3, c3, rfl⟩ := own_value ho3
      clear b3 ho3
      go_wp2_with fail
      go_roundw
      case rel => exact ⟨j + 1, by omega, by go_num, by rw [HSN.out], B3.out⟩
      case measure => simp [intOf]; omega
    · have hj' : j = rs.length := by omega
      subst hj'
      have HB := Lib.hid hB
      clear hB hbd
      go_wp2_with fail
      go_ret
      exact ⟨by rw [HR.out]; rfl, below_step B2.out HB.out⟩
end Go.Proofs.Ytpghiebedjogpaa
