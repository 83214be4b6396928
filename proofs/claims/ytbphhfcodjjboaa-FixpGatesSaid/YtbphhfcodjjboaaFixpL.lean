/- The walks of the laws of layer 1: each returns true, whatever its arguments are. -/
import Derived.Test.YtbphhfcodjjboaaFixpS
import Derived.Deep.RegionHeld3
namespace Go.Proofs.Ytbphhfcodjjboaa
open Go.RowKit
theorem below_step2 {a b c : World} {n : Nat} (k : Below n b c) (e : b.heap.size = n) (h : Below a.heap.size a b) : Below a.heap.size a c := h.trans (k.mono (by rw [← e]; exact h.size))
set_option maxHeartbeats 1000000 in
theorem walk_products (a b : Int) (ha : -9223372036854775808 ≤ a ∧ a ≤ 9223372036854775807) (hb : -9223372036854775808 ≤ b ∧ b ≤ 9223372036854775807) (w : World) :
    Calls Try.prog 3 #[.int .i64 a, .int .i64 b] w fun e w' => e = .returned (.bool true) ∧ Below w.heap.size w w' := by
  have hc := Lib.hid (Int.mul_comm b a)
  have P1 := fun W => product_any a b ha.1 ha.2 hb.1 hb.2 W
  have P2 := fun W => product_any b a hb.1 hb.2 ha.1 ha.2 W
  rw [hc.out] at P2
  have P3 := fun W => refProduct_any a b ha.1 ha.2 hb.1 hb.2 W
  have L := Lib.hid (show wrap64 (lo128 (a * b)) = wrap64 (a * b) from wrap64_mod _)
  go_enter Try.func3, Try.ntmps3
  go_wp2_with (go_at_call 9; with_reducible refine (P1 _).mono ?_; rintro e w1 ⟨rfl, h1⟩)
  go_wp2_with (go_at_call 10; with_reducible refine (P3 _).mono ?_; rintro e w2 ⟨rfl, rfl⟩)
  go_wp2_with (go_at_call 9; with_reducible refine (P2 _).mono ?_; rintro e w3 ⟨rfl, h3⟩)
  go_wp2_with (go_at_call 11; refine (alive_any _).mono ?_; rintro e w4 ⟨rfl, h4⟩)
  go_ret
  exact ⟨ret_b (by rw [L.out]; simp), h1.trans ((h3.mono h1.size).trans (h4.mono (Nat.le_trans h1.size h3.size)))⟩
set_option maxHeartbeats 1000000 in
theorem walk_gates (a g : Int) (ha : -9223372036854775808 ≤ a ∧ a ≤ 9223372036854775807) (w : World) :
    Calls Try.prog 7 #[.int .i64 a, .int .i64 g] w fun e w' => e = .returned (.bool true) ∧ Below w.heap.size w w' := by
  have S := Lib.hid (show sumw [wrap64 (a - g), g] = a by unfold sumw; simp only [isum]; unfold wrap64; omega)
  go_enter Try.func7, Try.ntmps7
  go_wp2_with (first | (go_at_call 11; refine (alive_any _).mono ?_; rintro e w1 ⟨rfl, h1⟩) | (go_at_call 22; refine (relu_any _ _).mono ?_; rintro e w2 ⟨rfl, rfl⟩) | (go_at_call 23; refine (refGate_any _ _ _).mono ?_; rintro e w2 ⟨rfl, rfl⟩) | (go_at_call 24; refine (gate_any _ _ _).mono ?_; rintro e w2 ⟨rfl, rfl⟩) | (go_at_call 25; refine (sub_any _ _ _).mono ?_; rintro e w2 ⟨rfl, rfl⟩) | (go_at_call 18; refine (sum_any _ [wrap64 (a - g), g] (by simp) _ (IntsAt.fresh rfl)).mono ?_; rintro e w5 ⟨rfl, h5⟩))
  go_ret
  exact ⟨ret_b (by rw [S.out]; simp), h1.trans (((Below.refl _ _).alloc h1.size _).trans (h5.mono (by simp; exact Nat.le_succ_of_le h1.size)))⟩
set_option maxHeartbeats 1000000 in
theorem walk_shifts (hi lo q : Int) (hlo : 0 ≤ lo ∧ lo < 18446744073709551616) (hq : -9223372036854775808 ≤ q ∧ q ≤ 9223372036854775807) (w : World) :
    Calls Try.prog 4 #[.int .i64 hi, .int .u64 lo, .int .i64 q] w fun e w' => e = .returned (.bool true) ∧ Below w.heap.size w w' := by
  have P1 := fun W => shift_any hi lo q W hlo.1 hlo.2
  have P2 := fun W => refShift_any hi lo q W hlo.1 hlo.2
  by_cases h1 : q < 1
  · go_enter Try.func4, Try.ntmps4
    go_wp2_with (first | (go_at_call 11; refine (alive_any _).mono ?_; rintro e w4 ⟨rfl, h4⟩) | (go_at_call 12; with_reducible refine (P1 _).mono ?_; rintro e w2 ⟨rfl, h2⟩) | (go_at_call 13; with_reducible refine (P2 _).mono ?_; rintro e w3 ⟨rfl, rfl⟩))
    go_ret
    exact ⟨rfl, h2.trans (h4.mono h2.size)⟩
  · by_cases h63 : 63 < q
    · go_enter Try.func4, Try.ntmps4
      go_wp2_with (first | (go_at_call 11; refine (alive_any _).mono ?_; rintro e w4 ⟨rfl, h4⟩) | (go_at_call 12; with_reducible refine (P1 _).mono ?_; rintro e w2 ⟨rfl, h2⟩) | (go_at_call 13; with_reducible refine (P2 _).mono ?_; rintro e w3 ⟨rfl, rfl⟩))
      go_ret
      exact ⟨rfl, h2.trans (h4.mono h2.size)⟩
    · have S := shift_word hi lo 1 63 (by omega) hlo.1 hlo.2
      rw [Int.pow_one, or_swap, show (2 : Int) ^ 63 = 9223372036854775808 by decide] at S
      have T := Lib.hid (shiftq_step hi lo q hlo.1 hlo.2 (by omega) (by omega))
      have P3 := fun W => shift_any (hi / 2) ((hi * 18446744073709551616 + lo) / 2 % 18446744073709551616) (q - 1) W (by omega) (by omega)
      rw [← T.out, ← S] at P3
      clear S
      go_enter Try.func4, Try.ntmps4
      go_wp2_with fail
      refine (P1 _).mono ?_
      rintro e w2 ⟨rfl, h2⟩
      go_wp2_with fail
      refine (P2 _).mono ?_
      rintro e w3 ⟨rfl, rfl⟩
      go_wp2_with fail
      refine (alive_any _).mono ?_
      rintro e w4 ⟨rfl, h4⟩
      go_wp2_with fail
      refine (P1 _).mono ?_
      rintro e w6 ⟨rfl, h6⟩
      go_wp2_with fail
      refine (P3 _).mono ?_
      rintro e w5 ⟨rfl, h5⟩
      go_wp2
      go_ret
      have h24 := h2.trans (h4.mono h2.size)
      have h26 := h24.trans (h6.mono h24.size)
      exact ⟨ret_b (by simp), h26.trans (h5.mono h26.size)⟩
set_option maxHeartbeats 1000000 in
theorem walk_muls (a b q : Int) (ha : -9223372036854775808 ≤ a ∧ a ≤ 9223372036854775807) (hb : -9223372036854775808 ≤ b ∧ b ≤ 9223372036854775807) (w : World) :
    Calls Try.prog 5 #[.int .i64 a, .int .i64 b, .int .i64 q] w fun e w' => e = .returned (.bool true) ∧ Below w.heap.size w w' := by
  have hc := Lib.hid (mulq_comm b a q)
  have P1 := fun W => mul_any a b q ha.1 ha.2 hb.1 hb.2 W
  have P2 := fun W => mul_any b a q hb.1 hb.2 ha.1 ha.2 W
  rw [hc.out] at P2
  have P3 := fun W => refMul_any a b q ha.1 ha.2 hb.1 hb.2 W
  by_cases h : 0 ≤ q ∧ q ≤ 62
  · have O := oneq_range q
    have P4 := fun W => mul_any a (oneq q) q ha.1 ha.2 (by omega) (by omega) W
    rw [mulq_one a q ha.1 ha.2 h.1 h.2] at P4
    have g1 := h.1
    have g2 := h.2
    clear h O
    go_enter Try.func5, Try.ntmps5
    go_wp2_with fail
    refine (P1 _).mono ?_
    rintro e w1 ⟨rfl, h1⟩
    go_wp2_with fail
    refine (P3 _).mono ?_
    rintro e w2 ⟨rfl, rfl⟩
    go_wp2_with fail
    refine (P2 _).mono ?_
    rintro e w3 ⟨rfl, h3⟩
    go_wp2_with fail
    refine (one_any _ _).mono ?_
    rintro e w4 ⟨rfl, rfl⟩
    go_wp2_with fail
    refine (refOne_any _ _).mono ?_
    rintro e w4 ⟨rfl, rfl⟩
    go_wp2_with fail
    refine (alive_any _).mono ?_
    rintro e w5 ⟨rfl, h5⟩
    go_wp2_with fail
    refine (one_any _ _).mono ?_
    rintro e w4 ⟨rfl, rfl⟩
    go_wp2_with fail
    refine (P4 _).mono ?_
    rintro e w6 ⟨rfl, h6⟩
    go_wp2
    go_ret
    have h13 := h1.trans (h3.mono h1.size)
    have h15 := h13.trans (h5.mono h13.size)
    exact ⟨ret_b (by simp), h15.trans (h6.mono h15.size)⟩
  · have h' : q < 0 ∨ ¬ q < 0 ∧ 62 < q := by omega
    clear h
    rcases h' with h | h
    all_goals
      go_enter Try.func5, Try.ntmps5
      go_wp2_with fail
      refine (P1 _).mono ?_
      rintro e w1 ⟨rfl, h1⟩
      go_wp2_with fail
      refine (P3 _).mono ?_
      rintro e w2 ⟨rfl, rfl⟩
      go_wp2_with fail
      refine (P2 _).mono ?_
      rintro e w3 ⟨rfl, h3⟩
      go_wp2_with fail
      refine (one_any _ _).mono ?_
      rintro e w4 ⟨rfl, rfl⟩
      go_wp2_with fail
      refine (refOne_any _ _).mono ?_
      rintro e w4 ⟨rfl, rfl⟩
      go_wp2_with fail
      refine (alive_any _).mono ?_
      rintro e w5 ⟨rfl, h5⟩
      go_wp2
      go_ret
      have h13 := h1.trans (h3.mono h1.size)
      exact ⟨rfl, h13.trans (h5.mono h13.size)⟩
theorem mulq_shr (a : Int) (n m : Nat) (hm : m ≤ n) (hn : n ≤ 62) (ha : -9223372036854775808 ≤ a ∧ a ≤ 9223372036854775807) : mulq a (2 ^ m) n = a / 2 ^ (n - m) := by
  have e : (n : Int).toNat = n := rfl
  unfold mulq
  rw [if_pos ⟨by omega, by omega⟩, e, show (2 : Int) ^ n = 2 ^ m * 2 ^ (n - m) by rw [← Int.pow_add]; congr 1; omega, Int.mul_comm a, Int.mul_ediv_mul_of_pos _ _ (two_pos m)]
  have h1 := two_pos (n - m)
  refine wrap64_id ?_ ?_
  · have := Int.ediv_le_ediv h1 ha.1
    refine Int.le_trans ?_ this
    rw [Int.le_ediv_iff_mul_le h1]
    have : (1 : Int) ≤ 2 ^ (n - m) := h1
    omega
  · by_cases h0 : 0 ≤ a
    · have := Int.ediv_le_self (2 ^ (n - m)) h0; omega
    · have := Int.ediv_neg_of_neg_of_pos (show a < 0 by omega) h1; omega
set_option maxHeartbeats 1000000 in
theorem walk_floors (a q k : Int) (ha : -9223372036854775808 ≤ a ∧ a ≤ 9223372036854775807) (hq : 0 ≤ q ∧ q ≤ 255) (hk : 0 ≤ k ∧ k ≤ 255) (w : World) :
    Calls Try.prog 8 #[.int .i64 a, .int .u8 q, .int .u8 k] w fun e w' => e = .returned (.bool true) ∧ Below w.heap.size w w' := by
  have n0 : 0 ≤ q % 63 ∧ q % 63 ≤ 62 := by omega
  have m0 : 0 ≤ k % (q % 63 + 1) ∧ k % (q % 63 + 1) ≤ q % 63 := by
    have h1 := Int.emod_nonneg k (show q % 63 + 1 ≠ 0 by omega)
    have h2 := Int.emod_lt_of_pos k (show 0 < q % 63 + 1 by omega)
    omega
  have p0 := pow_le62 (k % (q % 63 + 1)).toNat (by omega)
  have M := mulq_shr a (q % 63).toNat (k % (q % 63 + 1)).toNat (by omega) (by omega) ha
  have P1 := fun W => mul_any a (2 ^ (k % (q % 63 + 1)).toNat) (q % 63) ha.1 ha.2 (by omega) (by omega) W
  have P2 := fun W => mul_any a (-1) (q % 63) ha.1 ha.2 (by omega) (by omega) W
  have P3 := fun W => refMul_any (-1) a (q % 63) (by omega) (by omega) ha.1 ha.2 W
  rw [mulq_comm] at P3
  rw [show ((q % 63).toNat : Int) = q % 63 by omega] at M
  have HM := Lib.hid M
  clear M
  have n1 := n0.1
  have n2 := n0.2
  have m1 := m0.1
  have m2 := m0.2
  have p1 := p0.1
  have p2 := p0.2
  clear n0 m0 p0
  go_enter Try.func8, Try.ntmps8
  go_wp2
  have w1 : IntKind.i64.wrap (2 ^ (k % (q % 63 + 1)).toNat) = 2 ^ (k % (q % 63 + 1)).toNat := IntWalk.i64_in _ (by omega)
  have w2 : IntKind.i64.wrap (q % 63 - k % (q % 63 + 1)) = q % 63 - k % (q % 63 + 1) := IntWalk.i64_in _ (by omega)
  have w3 : 0 ≤ q % 63 - k % (q % 63 + 1) := by omega
  have w4 : (mulq a (2 ^ (k % (q % 63 + 1)).toNat) (q % 63) == a / 2 ^ (q % 63 - k % (q % 63 + 1)).toNat) = true := by
    rw [HM.out, show (q % 63).toNat - (k % (q % 63 + 1)).toNat = (q % 63 - k % (q % 63 + 1)).toNat by omega]; simp
  go_region_held3 (fun w' => Below w.heap.size w w') (first | assumption | exact (Below.refl _ _).drew | exact Below.drew ‹_› | exact below_step ‹_› ‹_›) (first | (go_at_call 11; refine (alive_any _).mono ?_; rintro e w4 ⟨rfl, h4⟩) | (go_at_call 14; with_reducible refine (P1 _).mono ?_; rintro e w5 ⟨rfl, h5⟩) | (go_at_call 14; with_reducible refine (P2 _).mono ?_; rintro e w6 ⟨rfl, h6⟩) | (go_at_call 15; with_reducible refine (P3 _).mono ?_; rintro e w7 ⟨rfl, rfl⟩))
  go_wp2
  go_ret
  exact ⟨rfl, ‹_›⟩
theorem sumw_split (zs : List Int) (k : Nat) : sumw [sumw (zs.take k), sumw (zs.drop k)] = sumw zs := by
  have h := isum_append (zs.take k) (zs.drop k)
  rw [List.take_append_drop] at h
  unfold sumw
  rw [h]
  simp only [isum]
  unfold wrap64; omega
theorem sumw_reverse (zs : List Int) : sumw zs.reverse = sumw zs := by unfold sumw; rw [isum_reverse]
set_option maxHeartbeats 1000000 in
theorem walk_sums (p : Option Addr) (len cap : Nat) (n : Int) (zs : List Int) (hn : 0 ≤ n ∧ n ≤ 255) (w : World) (hm : zs.length ≤ maxLen) (hL : IntsAt .i64 w.heap.size w (.slice p len cap) zs) :
    Calls Try.prog 6 #[.slice p len cap, .int .u8 n] w fun e w' => e = .returned (.bool true) ∧ Below w.heap.size w w' := by
  unfold maxLen at hm
  have hlen := hL.len
  by_cases h5 : 500 < len
  · go_enter Try.func6, Try.ntmps6
    go_wp2_with fail
    refine (alive_any _).mono ?_
    rintro e w5 ⟨rfl, h5⟩
    go_wp2
    go_ret
    exact ⟨rfl, h5⟩
  · have hk0 : 0 ≤ n % (len + 1) ∧ n % (len + 1) ≤ len := by
      have h1 := Int.emod_nonneg n (show (len : Int) + 1 ≠ 0 by omega)
      have h2 := Int.emod_lt_of_pos n (show (0 : Int) < len + 1 by omega)
      omega
    have HL := Lib.hid hL
    have hl5 : zs.length ≤ 500 := by omega
    have Hlen := Lib.hid hlen
    clear hL hlen
    have k1 := hk0.1
    have k2 := hk0.2
    clear hk0
    go_enter Try.func6, Try.ntmps6
    go_wp2_with fail
    refine (sum_any _ zs (by omega) _ HL.out).mono ?_
    rintro e w1 ⟨rfl, h1⟩
    have HL1 := Lib.hid (HL.out.later h1)
    go_wp2_with fail
    refine (clone_i64 _ _ _ zs (by omega) _ HL1.out).mono ?_
    rintro e w2 ⟨v, rfl, ho, h2⟩
    go_wp2_with fail
    refine (reverse_i64 _ _ _ _ zs _ ho (by omega)).mono ?_
    rintro e w3 ⟨rfl, ho3, h3⟩
    clear ho
    have HL3 := Lib.hid ((HL1.out.below (h2.trans h3)).grow (Nat.le_trans h2.size h3.size))
    have HT3 := Lib.hid (IntsAt.of_owns (by simp) ho3)
    have kz : (n % (len + 1)).toNat ≤ zs.length := by have := Hlen.out; omega
    have Q1 := fun W (hb : Below w3.heap.size w3 W) => refSum_any p len cap zs (by omega) W (HL3.out.later hb)
    have Q2 := fun W (hb : Below w3.heap.size w3 W) => sum_any v zs.reverse (by simp; omega) W (HT3.out.later hb)
    rw [sumw_reverse] at Q2
    have Q3 := fun W (hb : Below w3.heap.size w3 W) => sum_any (cutv p 0 (n % (len + 1)).toNat cap 1) (zs.take (n % (len + 1)).toNat) (by simp; omega) W ((HL3.out.cut (Nat.zero_le _) kz).later hb)
    have Q4 := fun W (hb : Below w3.heap.size w3 W) => sum_any (cutv p (n % (len + 1)).toNat len cap 1) (zs.drop (n % (len + 1)).toNat) (by simp; omega) W (by
      have := HL3.out.cut (l := (n % (len + 1)).toNat) (h := zs.length) kz (Nat.le_refl _)
      rw [List.take_length, ← Hlen.out] at this
      exact this.later hb)
    have Q5 : ∀ (W : World), Calls Try.prog 18 #[.slice (some ⟨W.heap.size, 0, none⟩) 2 2] (W.alloc (.cells #[.int .i64 (sumw (zs.take (n % (len + 1)).toNat)), .int .i64 (sumw (zs.drop (n % (len + 1)).toNat))] 2)) fun e w' => e = .returned (.int .i64 (sumw zs)) ∧ Below (W.heap.size + 1) (W.alloc (.cells #[.int .i64 (sumw (zs.take (n % (len + 1)).toNat)), .int .i64 (sumw (zs.drop (n % (len + 1)).toNat))] 2)) w' := by
      intro W
      have h := sum_any _ [sumw (zs.take (n % (len + 1)).toNat), sumw (zs.drop (n % (len + 1)).toNat)] (by simp) _ (IntsAt.fresh (w := W) (e := 2) (cs := #[.int .i64 (sumw (zs.take (n % (len + 1)).toNat)), .int .i64 (sumw (zs.drop (n % (len + 1)).toNat))]) rfl)
      rw [sumw_split, World.size_alloc] at h
      exact h
    have r1 := fun W => run_cut_h (P := Try.prog) (T := 33) (s := 1) Try.underlying33 Try.sizeOf2 p len cap .i64 (n % (len + 1)) k1 (by have := HL3.out.form; rcases this with ⟨e, _⟩ | ⟨b, off, cap', e, hc, _⟩ <;> cases e <;> omega) W
    have r2 := fun W => run_cut_l (P := Try.prog) (T := 33) (s := 1) Try.underlying33 Try.sizeOf2 p len cap .i64 (n % (len + 1)) k1 k2 W
    go_wp2
    go_region_held3 (fun w' => Below w3.heap.size w3 w') (first | assumption | exact (Below.refl _ _).drew | exact Below.drew ‹_› | exact below_alloc ‹_› | exact below_step ‹_› ‹_› | exact below_step2 h8 (World.size_alloc _ _) (by assumption)) (first | (go_at_call 11; refine (alive_any _).mono ?_; rintro e w4 ⟨rfl, h4⟩) | (go_at_call 21; with_reducible refine (Q1 _ ?_).mono ?_; assumption; rintro e w7 ⟨rfl, rfl⟩) | (go_at_call 18; with_reducible refine (Q2 _ ?_).mono ?_; assumption; rintro e w5 ⟨rfl, h5⟩) | (go_at_call 18; with_reducible refine (Q3 _ ?_).mono ?_; assumption; rintro e w6 ⟨rfl, h6⟩) | (go_at_call 18; with_reducible refine (Q4 _ ?_).mono ?_; assumption; rintro e w7 ⟨rfl, h7⟩)| (go_at_call 18; with_reducible refine (Q5 _).mono ?_; rintro e w8 ⟨rfl, h8⟩))
    go_wp2
    go_ret
    have e1 := h1.trans ((h2.mono h1.size).trans (h3.mono h1.size))
    have e2 : Below w3.heap.size w3 w8 := by assumption
    exact ⟨rfl, e1.trans (e2.mono e1.size)⟩
end Go.Proofs.Ytbphhfcodjjboaa
