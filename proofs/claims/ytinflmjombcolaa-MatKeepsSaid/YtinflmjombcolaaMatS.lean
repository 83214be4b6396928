/- Layer 7: the reference's Back; the walk of MatProducts. -/
import Derived.Test.YtinflmjombcolaaMatQ
import Derived.Test.YtinflmjombcolaaMatR
import Derived.Deep.Cut
namespace Go.Proofs.Ytinflmjombcolaa
open Go.RowKit
set_option linter.unusedVariables false
def OutInts (zs : List Int) (b : Bool) (w : World) (e : Ending) (w' : World) : Prop := ∃ v, e = .returned (.tuple #[v, .bool b]) ∧ IntsAt .i64 w'.heap.size w' v zs ∧ Below w.heap.size w w'
theorem out_new {zs : List Int} {w w' : World} {e : Ending} (h : NewInts zs w e w') : OutInts zs true w e w' := by
  obtain ⟨v, rfl, o, b⟩ := h
  exact ⟨v, rfl, ints_own o, b⟩
def mulZ (r c : Int) (zs xs : List Int) (q : Int) : List Int := if mulB r c zs.length xs.length then mulL r.toNat c.toNat zs xs q else []
def backZ (r c : Int) (zs xs : List Int) (q : Int) : List Int := if backB r c zs.length xs.length then backL r.toNat c.toNat zs xs q else []
theorem back_right {r c : Int} {n k : Nat} (h : backB r c n k = true) : rightB r c n = true ∧ (k : Int) = r := by
  unfold backB at h
  simpa using h
theorem nats_of {r c : Int} {n : Nat} (h : rightB r c n = true) : ∃ R C : Nat, r = R ∧ c = C := by
  obtain ⟨r1, r2, c1, c2, _⟩ := right_some h
  exact ⟨r.toNat, c.toNat, by omega, by omega⟩
theorem refBack_no (r c : Int) (v u : Value) (zs xs : List Int) (q : Int) (h : backB r c zs.length xs.length = false) (hm : zs.length ≤ 1048576) (w : World) (hv0 : IntsW .i64 w.heap.size w v zs) (hu : IntsAt .i64 w.heap.size w u xs) :
    Calls Try.prog 23 #[.agg #[.int .i64 r, .int .i64 c, v], u, .int .i64 q] w fun e w' => e = .returned (.tuple #[.slice none 0 0, .bool false]) ∧ Below w.heap.size w w' := by
  obtain ⟨a, cap, rfl⟩ := hv0.value
  obtain ⟨a', cap', rfl⟩ := ints_value hu
  have AL := Lib.hid ((Below.refl w.heap.size w).alloc (Nat.le_refl _) (.cells #[.int .i64 r, .int .i64 c, .slice a zs.length cap] 24))
  have M0 := Lib.hid (Is3.new w (.int .i64 r) (.int .i64 c) (.slice a zs.length cap) 24)
  have V0 := Lib.hid (hv0.later AL.out)
  cases hr : rightB r c zs.length
  · have HT := Lib.hid (fun W => refTurn_no r c a zs.length cap hr W)
    have HM := Lib.hid (fun (a : Option Addr) (cap : Nat) W => refMM_no 0 0 a a' ([] : List Int).length cap xs.length cap' q (by unfold mulB rightB sideB; rfl) W)
    clear hv0 hu h hr
    go_enter Try.func23, Try.ntmps23
    go_upto_region 1 with fail
    generalize w.alloc (.cells #[.int .i64 r, .int .i64 c, .slice a zs.length cap] 24) = W0 at *
    obtain ⟨m0, m1, m2⟩ := M0.out
    go_wp2_with fail
    refine (HT.out _).mono ?_
    rintro e w1 ⟨t, rfl, ht, b1⟩
    obtain ⟨at_, ct, rfl⟩ := ht.value
    have B1 := Lib.hid (below_step AL.out b1)
    clear b1 ht
    go_wp2_with fail
    refine (HM.out _ _ _).mono ?_
    rintro e w2 ⟨rfl, b2⟩
    have B2 := Lib.hid (below_step B1.out b2)
    clear b2
    go_wp2_with fail
    go_ret2
    exact ⟨rfl, B2.out⟩
  · obtain ⟨R, C, rfl, rfl⟩ := nats_of hr
    obtain ⟨r1, r2, c1, c2, hlen⟩ := right_len hr
    have hne : ¬ ((xs.length : Int) = (R : Int)) := by
      unfold backB at h
      rw [hr] at h
      simpa using h
    have HT := Lib.hid (fun W hv => refTurn_yes R C (.slice a zs.length cap) zs hr hm W hv)
    have hmb : mulB (C : Int) (R : Int) (turnL R C zs).length xs.length = false := by
      unfold mulB
      rw [decide_eq_false hne, Bool.and_false]
    have HM := Lib.hid (fun (a : Option Addr) (cap : Nat) W => refMM_no C R a a' (turnL R C zs).length cap xs.length cap' q hmb W)
    generalize turnL R C zs = ts at *
    clear hv0 hu h hr hlen hne hmb
    go_enter Try.func23, Try.ntmps23
    go_upto_region 1 with fail
    generalize w.alloc (.cells #[.int .i64 R, .int .i64 C, .slice a zs.length cap] 24) = W0 at *
    obtain ⟨m0, m1, m2⟩ := M0.out
    go_wp2_with fail
    refine (HT.out _ V0.out).mono ?_
    rintro e w1 ⟨t, rfl, ht, b1⟩
    obtain ⟨at_, ct, rfl⟩ := ht.value
    have B1 := Lib.hid (below_step AL.out b1)
    clear b1 ht
    go_wp2_with fail
    refine (HM.out _ _ _).mono ?_
    rintro e w2 ⟨rfl, b2⟩
    have B2 := Lib.hid (below_step B1.out b2)
    clear b2
    go_wp2_with fail
    go_ret2
    exact ⟨rfl, B2.out⟩
theorem refBack_yes (R C : Nat) (v u : Value) (zs xs : List Int) (q : Int) (h : backB R C zs.length xs.length = true) (hz : ∀ z ∈ zs, Word z) (hx : ∀ z ∈ xs, Word z) (hm : zs.length ≤ 1048576) (w : World) (hv0 : IntsW .i64 w.heap.size w v zs) (hu : IntsAt .i64 w.heap.size w u xs) :
    Calls Try.prog 23 #[.agg #[.int .i64 R, .int .i64 C, v], u, .int .i64 q] w (OutInts (backL R C zs xs q) true w) := by
  obtain ⟨a, cap, rfl⟩ := hv0.value
  obtain ⟨a', cap', rfl⟩ := ints_value hu
  obtain ⟨hr, hk⟩ := back_right h
  obtain ⟨r1, r2, c1, c2, hlen⟩ := right_len hr
  have AL := Lib.hid ((Below.refl w.heap.size w).alloc (Nat.le_refl _) (.cells #[.int .i64 R, .int .i64 C, .slice a zs.length cap] 24))
  have M0 := Lib.hid (Is3.new w (.int .i64 R) (.int .i64 C) (.slice a zs.length cap) 24)
  have V0 := Lib.hid (hv0.later AL.out)
  have U0 := Lib.hid (hu.later AL.out)
  have HT := Lib.hid (fun W hv => refTurn_yes R C (.slice a zs.length cap) zs hr hm W hv)
  have htl := turnL_length R C zs
  have hmb : mulB (C : Int) (R : Int) (turnL R C zs).length xs.length = true := by
    unfold mulB rightB sideB
    rw [htl]
    simp only [Bool.and_eq_true, decide_eq_true_eq]
    refine ⟨⟨⟨?_, ?_⟩, ⟨?_, ?_⟩, ?_⟩, hk⟩
    all_goals first | omega | simp
  have HM := Lib.hid (fun v W hv hu => (refMM_yes C R v (.slice a' xs.length cap') (turnL R C zs) xs q hmb (turnL_word R C zs hz) hx (by rw [htl, Nat.mul_comm, ← hlen]; exact hm) W hv hu).mono fun _ _ h => out_new h)
  unfold backL
  generalize turnL R C zs = ts at *
  generalize mulL C R ts xs q = os at *
  clear hv0 hu h hr hlen hk hmb htl hz hx
  go_enter Try.func23, Try.ntmps23
  go_upto_region 1 with fail
  generalize w.alloc (.cells #[.int .i64 R, .int .i64 C, .slice a zs.length cap] 24) = W0 at *
  obtain ⟨m0, m1, m2⟩ := M0.out
  go_wp2_with fail
  refine (HT.out _ V0.out).mono ?_
  rintro e w1 ⟨t, rfl, ht, b1⟩
  have HT1 := Lib.hid ht
  obtain ⟨at_, ct, rfl⟩ := ht.value
  have B1 := Lib.hid (below_step AL.out b1)
  have U1 := Lib.hid (U0.out.later b1)
  clear b1 ht
  go_wp2_with fail
  refine (HM.out _ _ HT1.out U1.out).mono ?_
  rintro e w2 ⟨o, rfl, ho, b2⟩
  have HO := Lib.hid ho
  have B2 := Lib.hid (below_step B1.out b2)
  clear b2 ho
  go_wp2_with fail
  go_ret2
  exact ⟨o, rfl, HO.out, B2.out⟩
theorem mul_out (r c : Int) (v u : Value) (zs xs : List Int) (q : Int) (hz : ∀ z ∈ zs, Word z) (hx : ∀ z ∈ xs, Word z) (hm : zs.length ≤ 1048576) (w : World) (hv : IntsW .i64 w.heap.size w v zs) (hu : IntsAt .i64 w.heap.size w u xs) :
    Calls Try.prog 20 #[.agg #[.int .i64 r, .int .i64 c, v], u, .int .i64 q] w (OutInts (mulZ r c zs xs q) (mulB r c zs.length xs.length) w) := by
  cases h : mulB r c zs.length xs.length
  · have hzz : mulZ r c zs xs q = [] := by unfold mulZ; rw [h]; rfl
    rw [hzz]
    obtain ⟨a, cap, rfl⟩ := hv.value
    obtain ⟨a', cap', rfl⟩ := ints_value hu
    refine (mul_no r c a a' zs.length cap xs.length cap' q h w).mono ?_
    rintro e w' ⟨rfl, b⟩
    exact ⟨_, rfl, IntsAt.nil, b⟩
  · obtain ⟨R, C, rfl, rfl⟩ := nats_of (mul_right h).1
    have hzz : mulZ R C zs xs q = mulL R C zs xs q := by unfold mulZ; rw [h]; rfl
    rw [hzz]
    exact (mul_yes R C v u zs xs q h hz hx hm w hv hu).mono fun _ _ h => out_new h
theorem refMM_out (r c : Int) (v u : Value) (zs xs : List Int) (q : Int) (hz : ∀ z ∈ zs, Word z) (hx : ∀ z ∈ xs, Word z) (hm : zs.length ≤ 1048576) (w : World) (hv : IntsW .i64 w.heap.size w v zs) (hu : IntsAt .i64 w.heap.size w u xs) :
    Calls Try.prog 22 #[.agg #[.int .i64 r, .int .i64 c, v], u, .int .i64 q] w (OutInts (mulZ r c zs xs q) (mulB r c zs.length xs.length) w) := by
  cases h : mulB r c zs.length xs.length
  · have hzz : mulZ r c zs xs q = [] := by unfold mulZ; rw [h]; rfl
    rw [hzz]
    obtain ⟨a, cap, rfl⟩ := hv.value
    obtain ⟨a', cap', rfl⟩ := ints_value hu
    refine (refMM_no r c a a' zs.length cap xs.length cap' q h w).mono ?_
    rintro e w' ⟨rfl, b⟩
    exact ⟨_, rfl, IntsAt.nil, b⟩
  · obtain ⟨R, C, rfl, rfl⟩ := nats_of (mul_right h).1
    have hzz : mulZ R C zs xs q = mulL R C zs xs q := by unfold mulZ; rw [h]; rfl
    rw [hzz]
    exact (refMM_yes R C v u zs xs q h hz hx hm w hv hu).mono fun _ _ h => out_new h
theorem back_out (r c : Int) (v u : Value) (zs xs : List Int) (q : Int) (hz : ∀ z ∈ zs, Word z) (hx : ∀ z ∈ xs, Word z) (hm : zs.length ≤ 1048576) (w : World) (hv : IntsW .i64 w.heap.size w v zs) (hu : IntsAt .i64 w.heap.size w u xs) :
    Calls Try.prog 21 #[.agg #[.int .i64 r, .int .i64 c, v], u, .int .i64 q] w (OutInts (backZ r c zs xs q) (backB r c zs.length xs.length) w) := by
  cases h : backB r c zs.length xs.length
  · have hzz : backZ r c zs xs q = [] := by unfold backZ; rw [h]; rfl
    rw [hzz]
    obtain ⟨a, cap, rfl⟩ := hv.value
    obtain ⟨a', cap', rfl⟩ := ints_value hu
    refine (back_no r c a a' zs.length cap xs.length cap' q h w).mono ?_
    rintro e w' ⟨rfl, b⟩
    exact ⟨_, rfl, IntsAt.nil, b⟩
  · obtain ⟨R, C, rfl, rfl⟩ := nats_of (back_right h).1
    have hzz : backZ R C zs xs q = backL R C zs xs q := by unfold backZ; rw [h]; rfl
    rw [hzz]
    exact (back_yes R C v u zs xs q h hz hx hm w hv hu).mono fun _ _ h => out_new h
theorem refBack_out (r c : Int) (v u : Value) (zs xs : List Int) (q : Int) (hz : ∀ z ∈ zs, Word z) (hx : ∀ z ∈ xs, Word z) (hm : zs.length ≤ 1048576) (w : World) (hv : IntsW .i64 w.heap.size w v zs) (hu : IntsAt .i64 w.heap.size w u xs) :
    Calls Try.prog 23 #[.agg #[.int .i64 r, .int .i64 c, v], u, .int .i64 q] w (OutInts (backZ r c zs xs q) (backB r c zs.length xs.length) w) := by
  cases h : backB r c zs.length xs.length
  · have hzz : backZ r c zs xs q = [] := by unfold backZ; rw [h]; rfl
    rw [hzz]
    refine (refBack_no r c v u zs xs q h hm w hv hu).mono ?_
    rintro e w' ⟨rfl, b⟩
    exact ⟨_, rfl, IntsAt.nil, b⟩
  · obtain ⟨R, C, rfl, rfl⟩ := nats_of (back_right h).1
    have hzz : backZ R C zs xs q = backL R C zs xs q := by unfold backZ; rw [h]; rfl
    rw [hzz]
    exact refBack_yes R C v u zs xs q h hz hx hm w hv hu
theorem mulZ_length (r c : Int) (zs xs : List Int) (q : Int) : (mulZ r c zs xs q).length ≤ 1048576 := by
  unfold mulZ
  cases h : mulB r c zs.length xs.length
  · simp
  · obtain ⟨r1, r2, c1, c2, _⟩ := right_some (mul_right h).1
    rw [if_pos rfl, mulL_length]
    omega
theorem backZ_length (r c : Int) (zs xs : List Int) (q : Int) : (backZ r c zs xs q).length ≤ 1048576 := by
  unfold backZ
  cases h : backB r c zs.length xs.length
  · simp
  · obtain ⟨r1, r2, c1, c2, _⟩ := right_some (back_right h).1
    rw [if_pos rfl, backL_length]
    omega
set_option maxHeartbeats 2000000 in
theorem walk_products7_big (r c : Int) (v u : Value) (zs xs : List Int) (q : Int) (w : World) (hv : IntsW .i64 w.heap.size w v zs) (hu : IntsAt .i64 w.heap.size w u xs) (hmx : xs.length ≤ maxLen) (h6 : 600 < zs.length ∨ zs.length ≤ 600 ∧ 600 < xs.length) :
    Calls Try.prog 4 #[.agg #[.int .i64 r, .int .i64 c, v], u, .int .i64 q] w fun e w' => e = .returned (.bool true) ∧ Below w.heap.size w w' := by
  obtain ⟨a, cap, rfl⟩ := hv.value
  obtain ⟨a', cap', rfl⟩ := ints_value hu
  have b0 := (Below.refl w.heap.size w).alloc (Nat.le_refl _) (.cells #[.int .i64 r, .int .i64 c, .slice a zs.length cap] 24)
  have m := Is3.new w (.int .i64 r) (.int .i64 c) (.slice a zs.length cap) 24
  obtain ⟨m0, m1, m2⟩ := m
  have HF := Lib.hid (fun W => few_any r c a zs.length cap W)
  unfold maxLen at hmx
  clear hv hu
  rcases h6 with h6 | ⟨h6, h7⟩
  · have g : decide (zs.length ≤ 600) = false := by simp; omega
    rw [g] at HF
    clear g
    go_enter Try.func4, Try.ntmps4
    go_wp2_with fail
    refine (HF.out _).mono ?_
    rintro e w1 ⟨rfl, b1⟩
    go_wp2_with fail
    refine (alive7_any _).mono ?_
    rintro e w2 ⟨rfl, b2⟩
    go_wp2_with fail
    go_ret
    exact ⟨rfl, below_step (below_step b0 b1) b2⟩
  · have g : decide (zs.length ≤ 600) = true := by simpa using h6
    rw [g] at HF
    clear g
    go_enter Try.func4, Try.ntmps4
    go_wp2_with fail
    refine (HF.out _).mono ?_
    rintro e w1 ⟨rfl, b1⟩
    go_wp2_with fail
    refine (alive7_any _).mono ?_
    rintro e w2 ⟨rfl, b2⟩
    go_wp2_with fail
    go_ret
    exact ⟨rfl, below_step (below_step b0 b1) b2⟩
set_option maxHeartbeats 4000000 in
theorem walk_products7 (r c : Int) (v u : Value) (zs xs : List Int) (q : Int) (hz : ∀ z ∈ zs, Word z) (hx : ∀ z ∈ xs, Word z) (w : World) (hv : IntsW .i64 w.heap.size w v zs) (hu : IntsAt .i64 w.heap.size w u xs) (hmx : xs.length ≤ maxLen) :
    Calls Try.prog 4 #[.agg #[.int .i64 r, .int .i64 c, v], u, .int .i64 q] w fun e w' => e = .returned (.bool true) ∧ Below w.heap.size w w' := by
  by_cases h6 : zs.length ≤ 600 ∧ xs.length ≤ 600
  case neg => exact walk_products7_big r c v u zs xs q w hv hu hmx (by omega)
  obtain ⟨h6, h7⟩ := h6
  obtain ⟨a, cap, rfl⟩ := hv.value
  obtain ⟨a', cap', rfl⟩ := ints_value hu
  have b0 := (Below.refl w.heap.size w).alloc (Nat.le_refl _) (.cells #[.int .i64 r, .int .i64 c, .slice a zs.length cap] 24)
  have m := Is3.new w (.int .i64 r) (.int .i64 c) (.slice a zs.length cap) 24
  have HF := Lib.hid (fun W => few_any r c a zs.length cap W)
  have g : decide (zs.length ≤ 600) = true := by simpa using h6
  rw [g] at HF
  have H1 := Lib.hid (fun W hv hu => mul_out r c (.slice a zs.length cap) (.slice a' xs.length cap') zs xs q hz hx (by omega) W hv hu)
  have H2 := Lib.hid (fun W hv hu => back_out r c (.slice a zs.length cap) (.slice a' xs.length cap') zs xs q hz hx (by omega) W hv hu)
  have H3 := Lib.hid (fun W hv hu => refMM_out r c (.slice a zs.length cap) (.slice a' xs.length cap') zs xs q hz hx (by omega) W hv hu)
  have H4 := Lib.hid (fun W hv hu => refBack_out r c (.slice a zs.length cap) (.slice a' xs.length cap') zs xs q hz hx (by omega) W hv hu)
  have L1 := Lib.hid (mulZ_length r c zs xs q)
  have L2 := Lib.hid (backZ_length r c zs xs q)
  have V0 := Lib.hid (hv.later b0)
  have U0 := Lib.hid (hu.later b0)
  have B0 := Lib.hid b0
  have M0 := Lib.hid m
  generalize mulZ r c zs xs q = mz at *
  generalize backZ r c zs xs q = bz at *
  generalize mulB r c zs.length xs.length = mb at *
  generalize backB r c zs.length xs.length = bb at *
  clear hv hu g hz hx b0 m hmx
  go_enter Try.func4, Try.ntmps4
  go_upto_region 1 with fail
  generalize w.alloc (.cells #[.int .i64 r, .int .i64 c, .slice a zs.length cap] 24) = W0 at *
  obtain ⟨m0, m1, m2⟩ := M0.out
  go_wp2_with fail
  refine (HF.out _).mono ?_
  rintro e w1 ⟨rfl, b1⟩
  have B1 := Lib.hid (below_step B0.out b1)
  have M1 := Lib.hid (M0.out.later b1)
  have V1 := Lib.hid (V0.out.later b1)
  have U1 := Lib.hid (U0.out.later b1)
  clear b1 m0 m1 m2
  obtain ⟨m0, m1, m2⟩ := M1.out
  go_wp2_with fail
  refine (given_any r c (.slice a zs.length cap) ⟨_, _, _, rfl⟩ _).mono ?_
  rintro e w2 ⟨rfl, b2⟩
  have B2 := Lib.hid (below_step B1.out b2)
  have M2 := Lib.hid (M1.out.later b2)
  have V2 := Lib.hid (V1.out.later b2)
  have U2 := Lib.hid (U1.out.later b2)
  clear b2 m0 m1 m2
  obtain ⟨m0, m1, m2⟩ := M2.out
  go_wp2_with fail
  refine (H1.out _ V2.out U2.out).mono ?_
  rintro e w3 ⟨o3, rfl, ho3, b3⟩
  have B3 := Lib.hid (below_step B2.out b3)
  have M3 := Lib.hid (M2.out.later b3)
  have V3 := Lib.hid (V2.out.later b3)
  have U3 := Lib.hid (U2.out.later b3)
  have BB3 := Lib.hid b3
  have O3 := Lib.hid ho3
  obtain ⟨ao3, co3, rfl⟩ := ints_value ho3
  clear b3 ho3 m0 m1 m2
  obtain ⟨m0, m1, m2⟩ := M3.out
  go_wp2_with fail
  refine (given_any r c (.slice a zs.length cap) ⟨_, _, _, rfl⟩ _).mono ?_
  rintro e w4 ⟨rfl, b4⟩
  have B4 := Lib.hid (below_step B3.out b4)
  have M4 := Lib.hid (M3.out.later b4)
  have V4 := Lib.hid (V3.out.later b4)
  have U4 := Lib.hid (U3.out.later b4)
  have BB4 := Lib.hid b4
  clear b4 m0 m1 m2
  obtain ⟨m0, m1, m2⟩ := M4.out
  go_wp2_with fail
  refine (H2.out _ V4.out U4.out).mono ?_
  rintro e w5 ⟨o5, rfl, ho5, b5⟩
  have B5 := Lib.hid (below_step B4.out b5)
  have M5 := Lib.hid (M4.out.later b5)
  have V5 := Lib.hid (V4.out.later b5)
  have U5 := Lib.hid (U4.out.later b5)
  have BB5 := Lib.hid b5
  have O5 := Lib.hid ho5
  obtain ⟨ao5, co5, rfl⟩ := ints_value ho5
  clear b5 ho5 m0 m1 m2
  obtain ⟨m0, m1, m2⟩ := M5.out
  go_wp2_with fail
  refine (H3.out _ V5.out U5.out).mono ?_
  rintro e w6 ⟨o6, rfl, ho6, b6⟩
  have B6 := Lib.hid (below_step B5.out b6)
  have M6 := Lib.hid (M5.out.later b6)
  have V6 := Lib.hid (V5.out.later b6)
  have U6 := Lib.hid (U5.out.later b6)
  have BB6 := Lib.hid b6
  have O6 := Lib.hid ho6
  obtain ⟨ao6, co6, rfl⟩ := ints_value ho6
  clear b6 ho6 m0 m1 m2
  obtain ⟨m0, m1, m2⟩ := M6.out
  go_wp2_with fail
  refine (H4.out _ V6.out U6.out).mono ?_
  rintro e w7 ⟨o7, rfl, ho7, b7⟩
  have B7 := Lib.hid (below_step B6.out b7)
  have M7 := Lib.hid (M6.out.later b7)
  have V7 := Lib.hid (V6.out.later b7)
  have U7 := Lib.hid (U6.out.later b7)
  have BB7 := Lib.hid b7
  have O7 := Lib.hid ho7
  obtain ⟨ao7, co7, rfl⟩ := ints_value ho7
  clear b7 ho7 m0 m1 m2
  have A7 := Lib.hid ((((O3.out.later BB4.out).later BB5.out).later BB6.out).later BB7.out)
  have C7 := Lib.hid ((O5.out.later BB6.out).later BB7.out)
  have D7 := Lib.hid (O6.out.later BB7.out)
  clear O3 O5 O6 BB3 BB4 BB5 BB6 BB7
  obtain ⟨m0, m1, m2⟩ := M7.out
  cases mb <;> cases bb
  all_goals
    go_wp2_with fail
    refine (alive7_any _).mono ?_
    rintro e w8 ⟨rfl, b8⟩
    have B8 := Lib.hid (below_step B7.out b8)
    have A8 := Lib.hid (A7.out.later b8)
    have C8 := Lib.hid (C7.out.later b8)
    have D8 := Lib.hid (D7.out.later b8)
    have E8 := Lib.hid (O7.out.later b8)
    clear b8
    go_wp2_with fail
    refine (refSame_any _ _ mz mz (by have := L1.out; omega) (by have := L1.out; omega) _ A8.out D8.out).mono ?_
    rintro e w9 ⟨rfl, b9⟩
    rw [sameL_self]
    have B9 := Lib.hid (below_step B8.out b9)
    have C9 := Lib.hid (C8.out.later b9)
    have E9 := Lib.hid (E8.out.later b9)
    clear b9
    go_wp2_with fail
    refine (refSame_any _ _ bz bz (by have := L2.out; omega) (by have := L2.out; omega) _ C9.out E9.out).mono ?_
    rintro e w10 ⟨rfl, b10⟩
    rw [sameL_self]
    have B10 := Lib.hid (below_step B9.out b10)
    clear b10
    go_wp2_with fail
    go_ret
    exact ⟨rfl, B10.out⟩
end Go.Proofs.Ytinflmjombcolaa
