/- Layer 2: numbers out of digits: integer, double, fractionBits. -/
import Derived.Test.YtcnabebcckbfkaaDoorDecV
namespace Go.Proofs.YtcnabebcckbfkaaDoor
open Go.RowKit
set_option linter.unusedVariables false
def cellsN (ds : List Nat) : List Value := ds.map fun (d : Nat) => Value.int .i64 (d : Int)
theorem cellsN_at (ds : List Nat) (k d : Nat) (h : ds[k]? = some d) : (cellsN ds)[k]? = some (.int .i64 (d : Int)) := by
  unfold cellsN; rw [List.getElem?_map, h]; rfl
theorem cellsN_set (ds : List Nat) (k d : Nat) : (cellsN ds).set k (.int .i64 (d : Int)) = cellsN (ds.set k d) := by
  unfold cellsN; rw [List.map_set]
theorem cellsN_length (ds : List Nat) : (cellsN ds).length = ds.length := by unfold cellsN; rw [List.length_map]
set_option maxHeartbeats 2000000 in
theorem integer_any (ds : List Nat) (hd : ∀ d ∈ ds, d < 10) (hl : ds.length ≤ 1000) (base : Nat) (v : Value) (w : World) (ho : w.ownsRow base 3 1 v ds.length (cellsN ds)) :
    Calls Tryd.prog 56 #[v] w fun e w' => e = .returned (.int .u64 ((valD ds % 18446744073709551616 : Nat) : Int)) ∧ Below w.heap.size w w' := by
  obtain ⟨a, c, rfl⟩ := own_value ho
  go_enter Tryd.func56, Tryd.ntmps56
  go_wp2_with fail
  go_loopw [3, 8] (fun n i wr => ∃ k : Nat, k ≤ ds.length ∧ n = .int .u64 ((valD (ds.take k) % 18446744073709551616 : Nat) : Int) ∧ i = .int .i64 k ∧ wr = w) (fun _ i _ => ds.length - (intOf i).toNat)
  case atStart => exact ⟨0, by omega, rfl, rfl, rfl⟩
  case round =>
    obtain ⟨k, hk, rfl, rfl, rfl⟩ := hrel
    by_cases hlt : k < ds.length
    · obtain ⟨g, c', e0, _⟩ := own_some ho (by omega)
      cases e0
      have hd' := hd ds[k] (List.getElem_mem hlt)
      have ct := (ho.cellAt k (by omega)).trans (cellsN_at ds k ds[k] (List.getElem?_eq_getElem hlt))
      have hbl := World.block_lt_of_cell? _ _ ct
      have hv : valD (ds.take (k + 1)) = 10 * valD (ds.take k) + ds[k] := by rw [List.take_succ_eq_append_getElem hlt, valD_snoc]
      have HV := Lib.hid hv
      clear hv
      generalize hdd : ds[k] = d at *
      clear hdd
      have hlti : (k : Int) < (ds.length : Int) := by omega
      obtain ⟨m, hm⟩ : ∃ m : Nat, m = valD (ds.take k) := ⟨_, rfl⟩
      rw [← hm] at HV ⊢
      clear hm
      have hmm : m % 18446744073709551616 < 18446744073709551616 := Nat.mod_lt _ (by decide)
      obtain ⟨r, hr⟩ : ∃ r : Nat, r = m % 18446744073709551616 := ⟨_, rfl⟩
      rw [← hr] at hmm ⊢
      have HR := Lib.hid hr
      clear hr
      go_wp2_with fail
      refine ⟨⟨k + 1, by omega, ?_, rfl, trivial⟩, ?_⟩
      · rw [HV.out]
        congr 1
        rw [IntKind.wrap_u64, IntKind.wrap_u64]
        have := HR.out
        omega
      · show ds.length - ((k : Int) + 1).toNat < ds.length - ((k : Int)).toNat
        omega
    · obtain rfl : k = ds.length := by omega
      have hlti : ¬ (ds.length : Int) < (ds.length : Int) := by omega
      rw [List.take_length]
      go_wp2_with fail
      go_ret
      exact ⟨rfl, Below.refl _ _⟩
theorem cellsN_get (ds : List Nat) (k : Nat) (hk : k < ds.length) : (cellsN ds)[k]? = some (.int .i64 ((ds.getD k 0 : Nat) : Int)) := by
  rw [cellsN_at ds k _ (List.getElem?_eq_getElem hk)]
  simp [hk]
/-- a row of digits, doubled from the place t on -/
def dblT (ds : List Nat) (t : Nat) : List Nat := ds.take t ++ (dblD (ds.drop t)).2
theorem dblT_length (ds : List Nat) (t : Nat) (ht : t ≤ ds.length) : (dblT ds t).length = ds.length := by
  unfold dblT; rw [List.length_append, List.length_take, dblD_length, List.length_drop]; omega
theorem dblT_at (ds : List Nat) (t : Nat) (ht : t < ds.length) : (dblT ds (t + 1))[t]? = some ds[t] := by
  unfold dblT
  rw [List.getElem?_append_left (by rw [List.length_take]; omega), List.getElem?_take, if_pos (by omega), List.getElem?_eq_getElem ht]
theorem dblT_step (ds : List Nat) (t : Nat) (ht : t < ds.length) : (dblT ds (t + 1)).set t ((2 * ds[t] + (dblD (ds.drop (t + 1))).1) % 10) = dblT ds t ∧ (dblD (ds.drop t)).1 = (2 * ds[t] + (dblD (ds.drop (t + 1))).1) / 10 := by
  have hdr : ds.drop t = ds[t] :: ds.drop (t + 1) := List.drop_eq_getElem_cons ht
  constructor
  · unfold dblT
    rw [hdr, dblD, List.take_succ_eq_append_getElem ht, List.append_assoc, List.set_append_right _ _ (by rw [List.length_take]; omega)]
    congr 1
    rw [show t - (ds.take t).length = 0 by rw [List.length_take]; omega]
    rfl
  · rw [hdr, dblD]
set_option maxHeartbeats 2000000 in
theorem double_any (ds : List Nat) (hd : ∀ d ∈ ds, d < 10) (hl : ds.length ≤ 1000) (base : Nat) (v : Value) (w : World) (ho : w.ownsRow base 3 1 v ds.length (cellsN ds)) :
    Calls Tryd.prog 72 #[v] w fun e w' => e = .returned (.int .i64 ((dblD ds).1 : Int)) ∧ w'.ownsRow base 3 1 v ds.length (cellsN (dblD ds).2) ∧ w.grownBy w' v.ownBlock := by
  obtain ⟨a, c, rfl⟩ := own_value ho
  have hd0 : dblT ds ds.length = ds := by unfold dblT; rw [List.take_length, List.drop_length]; simp [dblD]
  have h00 : dblT ds 0 = (dblD ds).2 := by unfold dblT; rw [List.drop_zero, List.take_zero, List.nil_append]
  have H00 := Lib.hid h00
  have HD0 := Lib.hid hd0
  clear h00 hd0
  go_enter Tryd.func72, Tryd.ntmps72
  go_wp2_with fail
  go_loopw [3, 4] (fun cv i wr => ∃ t : Nat, t ≤ ds.length ∧ cv = .int .i64 ((dblD (ds.drop t)).1 : Int) ∧ i = .int .i64 ((t : Int) - 1) ∧ wr.ownsRow base 3 1 (.slice a ds.length c) ds.length (cellsN (dblT ds t)) ∧ w.grownBy wr (Value.slice a ds.length c).ownBlock) (fun _ i _ => (intOf i + 1).toNat)
  case atStart => exact ⟨ds.length, by omega, by rw [List.drop_length]; rfl, rfl, by rw [HD0.out]; exact ho, grown_below (Below.refl _ _) _⟩
  case round =>
    obtain ⟨t, ht, rfl, rfl, hR, hG⟩ := hrel
    cases t with
    | zero =>
      have HR := Lib.hid hR
      have HG := Lib.hid hG
      clear hR hG
      rw [List.drop_zero]
      go_wp2_with fail
      go_ret
      exact ⟨rfl, by rw [← H00.out]; exact HR.out, HG.out⟩
    | succ t =>
      have htl : t < ds.length := by omega
      obtain ⟨g, c', e0, _⟩ := own_some hR (by omega)
      cases e0
      have hd' := hd ds[t] (List.getElem_mem htl)
      have ct := (hR.cellAt t (by omega)).trans (cellsN_at _ t ds[t] (dblT_at ds t htl))
      have fz := hR.frozenAt t
      have hbl := World.block_lt_of_cell? _ _ ct
      have hst := dblT_step ds t htl
      have hcar := dblD_carry (ds.drop (t + 1)) (fun x hx => hd x (List.mem_of_mem_drop hx))
      have ST := hR.stored t (.int .i64 (((2 * ds[t] + (dblD (ds.drop (t + 1))).1) % 10 : Nat) : Int))
      rw [cellsN_set, hst.1] at ST
      have R2 := Lib.hid ST.1
      have G2 := Lib.hid (grown_trans hG ST.2)
      have HC := Lib.hid hst.2
      clear ST hst hR hG
      generalize (dblD (ds.drop (t + 1))).1 = cr at *
      generalize hdd : ds[t] = d at *
      clear hdd
      go_wp2_with fail
      rw [show (2 * (d : Int) + (cr : Int)) % 10 = (((2 * d + cr) % 10 : Nat) : Int) by omega, show (2 * (d : Int) + (cr : Int)) / 10 = (((2 * d + cr) / 10 : Nat) : Int) by omega]
      refine ⟨⟨t, by omega, by rw [HC.out], rfl, R2.out, G2.out⟩, ?_⟩
      show ((t : Int) - 1 + 1).toNat < (((t + 1 : Nat) : Int) - 1 + 1).toNat
      omega
theorem bitsD_lt : ∀ (q n : Nat) (ds : List Nat) (m : Nat), (∀ d ∈ ds, d < 10) → n < m → bitsD q n ds < m * 2 ^ q
  | 0, n, ds, m, _, h => by rw [bitsD, Nat.pow_zero, Nat.mul_one]; exact h
  | q + 1, n, ds, m, hd, h => by
    rw [bitsD, Nat.pow_succ, Nat.mul_comm (2 ^ q), ← Nat.mul_assoc]
    have := dblD_carry ds hd
    exact bitsD_lt q _ _ _ (dblD_digit ds) (by omega)
set_option maxHeartbeats 2000000 in
theorem fractionBits_any (q : Nat) (hq : q ≤ 62) (ds : List Nat) (hd : ∀ d ∈ ds, d < 10) (hl : ds.length ≤ 1000) (base : Nat) (v : Value) (w : World) (ho : w.ownsRow base 3 1 v ds.length (cellsN ds)) :
    Calls Tryd.prog 57 #[v, .int .i64 q] w fun e w' => e = .returned (.int .u64 (bitsD q 0 ds : Int)) ∧ w.grownBy w' v.ownBlock := by
  obtain ⟨a, c, rfl⟩ := own_value ho
  have hlq : ds.length = ds.length := rfl
  generalize hn : ds.length = n at ho hlq hl ⊢
  clear hlq
  go_enter Tryd.func57, Tryd.ntmps57
  go_wp2_with fail
  go_loopw [5, 7] (fun m i wr => ∃ (j x : Nat) (es : List Nat), j ≤ q ∧ x < 2 ^ j ∧ (∀ d ∈ es, d < 10) ∧ es.length = n ∧ bitsD q 0 ds = bitsD (q - j) x es ∧ m = .int .u64 (x : Int) ∧ i = .int .i64 (j : Int) ∧ wr.ownsRow base 3 1 (.slice a n c) n (cellsN es) ∧ w.grownBy wr (Value.slice a n c).ownBlock) (fun _ i _ => q - (intOf i).toNat)
  case atStart => exact ⟨0, 0, ds, by omega, by decide, hd, hn, rfl, rfl, rfl, ho, grown_below (Below.refl _ _) _⟩
  case round =>
    obtain ⟨j, x, es, hj, hx, hes, hel, hb, rfl, rfl, hR, hG⟩ := hrel
    have HR := Lib.hid hR
    have HG := Lib.hid hG
    have HB := Lib.hid hb
    clear hR hG hb
    by_cases hlt : j < q
    · have hlti : (j : Int) < (q : Int) := by omega
      have hp : 2 ^ j ≤ 2 ^ 61 := Nat.pow_le_pow_right (by decide) (by omega)
      have hp2 : (2 : Nat) ^ 61 = 2305843009213693952 := by decide
      have hx2 : x < 2305843009213693952 := by omega
      have hpj : 2 ^ (j + 1) = 2 * 2 ^ j := by rw [Nat.pow_succ, Nat.mul_comm]
      have hcar := dblD_carry es hes
      have hxn : 2 * x + (dblD es).1 < 2 ^ (j + 1) := by omega
      have hbs : bitsD (q - j) x es = bitsD (q - (j + 1)) (2 * x + (dblD es).1) (dblD es).2 := by
        rw [show q - j = (q - (j + 1)) + 1 by omega, bitsD]
      have HD := Lib.hid (double_any es hes (by omega) base (.slice a n c) wr (by rw [hel]; exact HR.out))
      have HN := Lib.hid hxn
      have HS := Lib.hid hbs
      clear hp hp2 hpj hx hxn hbs
      go_wp2_with fail
      refine HD.out.mono ?_
      rintro e w' ⟨rfl, r', g'⟩
      have R2 := Lib.hid r'
      have G2 := Lib.hid (grown_trans HG.out g')
      have H10 := Lib.hid (dblD_digit es)
      have HL2 := Lib.hid (show (dblD es).2.length = n by rw [dblD_length]; exact hel)
      clear r' g'
      generalize (dblD es).1 = cr at *
      generalize (dblD es).2 = fs at *
      go_wp2_with fail
      refine ⟨⟨j + 1, 2 * x + cr, fs, by omega, HN.out, H10.out, HL2.out, HB.out.trans HS.out, by go_num, rfl, by have := R2.out; rwa [hel] at this, G2.out⟩, ?_⟩
      show q - ((j : Int) + 1).toNat < q - ((j : Int)).toNat
      omega
    · obtain rfl : j = q := by omega
      have hlti : ¬ (j : Int) < (j : Int) := by omega
      go_wp2_with fail
      go_ret
      refine ⟨?_, HG.out⟩
      rw [HB.out, Nat.sub_self, bitsD]
      rfl
end Go.Proofs.YtcnabebcckbfkaaDoor
