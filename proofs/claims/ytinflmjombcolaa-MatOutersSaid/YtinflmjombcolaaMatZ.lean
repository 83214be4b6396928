/- Layer 7: the walk of MatOuters. -/
import Derived.Test.YtinflmjombcolaaMatV
import Derived.Test.YtinflmjombcolaaMatY
namespace Go.Proofs.Ytinflmjombcolaa
open Go.RowKit
set_option linter.unusedVariables false
def oR (ys xs : List Int) : Int := if newB ys.length xs.length then ys.length else 0
def oC (ys xs : List Int) : Int := if newB ys.length xs.length then xs.length else 0
def oZ (ys xs : List Int) (q : Int) : List Int := if newB ys.length xs.length then outL ys xs q else []
theorem new_lens {R C : Nat} (h : newB R C = true) : 1 ≤ R ∧ 1 ≤ C ∧ R * C ≤ 1048576 := by
  obtain ⟨a, b, c, _⟩ := new_small h
  have : (R : Int) * C = ((R * C : Nat) : Int) := by simp
  omega
theorem outer_any (v u : Value) (ys xs : List Int) (q : Int) (hm1 : ys.length ≤ maxLen) (hm2 : xs.length ≤ maxLen) (hy : ∀ z ∈ ys, Word z) (hx : ∀ z ∈ xs, Word z) (w : World) (hv : IntsAt .i64 w.heap.size w v ys) (hu : IntsAt .i64 w.heap.size w u xs) :
    Calls Try.prog 27 #[v, u, .int .i64 q] w (Made (oR ys xs) (oC ys xs) (oZ ys xs q) w) := by
  unfold oR oC oZ
  cases h : newB ys.length xs.length
  · exact outer_no v u ys xs q hm1 hm2 h w hv hu
  · obtain ⟨h1, h2, h3⟩ := new_lens h
    exact outer_yes v u ys xs q h1 h2 h3 hy hx w hv hu
theorem refOuter_any (v u : Value) (ys xs : List Int) (q : Int) (hm1 : ys.length ≤ maxLen) (hm2 : xs.length ≤ maxLen) (hy : ∀ z ∈ ys, Word z) (hx : ∀ z ∈ xs, Word z) (w : World) (hv : IntsAt .i64 w.heap.size w v ys) (hu : IntsAt .i64 w.heap.size w u xs) :
    Calls Try.prog 28 #[v, u, .int .i64 q] w (Made (oR ys xs) (oC ys xs) (oZ ys xs q) w) := by
  unfold oR oC oZ
  cases h : newB ys.length xs.length
  · exact refOuter_no v u ys xs q hm1 hm2 h w hv hu
  · obtain ⟨h1, h2, h3⟩ := new_lens h
    exact refOuter_yes v u ys xs q h1 h2 h3 hy hx w hv hu
theorem newB_comm (r c : Int) : newB r c = newB c r := by
  unfold newB
  rw [Int.mul_comm r c, ← Bool.and_assoc, ← Bool.and_assoc, Bool.and_comm (decide (1 ≤ r))]
theorem oZ_length (ys xs : List Int) (q : Int) : (oZ ys xs q).length ≤ 1048576 := by
  unfold oZ
  cases h : newB ys.length xs.length
  · simp
  · rw [if_pos rfl, outL_length]
    exact (new_lens h).2.2
theorem right_new {R C : Nat} (h : newB R C = true) : rightB R C (R * C) = true := by
  obtain ⟨a, b, c, d, e⟩ := new_small h
  unfold rightB sideB
  simp only [Bool.and_eq_true, decide_eq_true_eq]
  refine ⟨⟨?_, ?_⟩, ⟨?_, ?_⟩, ?_⟩
  all_goals first | omega | simp
theorem turn_outer (ys xs : List Int) (q : Int) : turnR (oR ys xs) (oC ys xs) (oZ ys xs q).length = oR xs ys ∧ turnC (oR ys xs) (oC ys xs) (oZ ys xs q).length = oC xs ys ∧ turnZ (oR ys xs) (oC ys xs) (oZ ys xs q) = oZ xs ys q := by
  unfold oR oC oZ
  rw [newB_comm xs.length ys.length]
  cases h : newB ys.length xs.length
  · exact ⟨rfl, rfl, rfl⟩
  · have hr := right_new h
    simp only [if_true]
    unfold turnR turnC turnZ
    rw [outL_length, hr]
    simp only [if_true, Int.toNat_natCast]
    exact ⟨trivial, trivial, turn_out ys xs q⟩
set_option maxHeartbeats 2000000 in
theorem walk_outers_big (v u : Value) (ys xs : List Int) (q : Int) (w : World) (hv : IntsAt .i64 w.heap.size w v ys) (hu : IntsAt .i64 w.heap.size w u xs) (hm1 : ys.length ≤ maxLen) (hm2 : xs.length ≤ maxLen) (h6 : 25 < ys.length ∨ ys.length ≤ 25 ∧ 25 < xs.length) :
    Calls Try.prog 6 #[v, u, .int .i64 q] w fun e w' => e = .returned (.bool true) ∧ Below w.heap.size w w' := by
  obtain ⟨a, cap, rfl⟩ := ints_value hv
  obtain ⟨a', cap', rfl⟩ := ints_value hu
  unfold maxLen at hm1 hm2
  clear hv hu
  rcases h6 with h6 | ⟨h6, h7⟩
  all_goals
    go_enter Try.func6, Try.ntmps6
    go_wp2_with fail
    refine (alive7_any _).mono ?_
    rintro e w2 ⟨rfl, b2⟩
    go_wp2_with fail
    go_ret
    exact ⟨rfl, b2⟩
set_option maxHeartbeats 8000000 in
theorem walk_outers (v u : Value) (ys xs : List Int) (q : Int) (hy : ∀ z ∈ ys, Word z) (hx : ∀ z ∈ xs, Word z) (w : World) (hv : IntsAt .i64 w.heap.size w v ys) (hu : IntsAt .i64 w.heap.size w u xs) (hm1 : ys.length ≤ maxLen) (hm2 : xs.length ≤ maxLen) :
    Calls Try.prog 6 #[v, u, .int .i64 q] w fun e w' => e = .returned (.bool true) ∧ Below w.heap.size w w' := by
  by_cases h6 : ys.length ≤ 25 ∧ xs.length ≤ 25
  case neg => exact walk_outers_big v u ys xs q w hv hu hm1 hm2 (by omega)
  obtain ⟨h6, h7⟩ := h6
  obtain ⟨a, cap, rfl⟩ := ints_value hv
  obtain ⟨a', cap', rfl⟩ := ints_value hu
  have H1 := Lib.hid (fun W h k => outer_any (.slice a ys.length cap) (.slice a' xs.length cap') ys xs q hm1 hm2 hy hx W h k)
  have H2 := Lib.hid (fun W h k => refOuter_any (.slice a ys.length cap) (.slice a' xs.length cap') ys xs q hm1 hm2 hy hx W h k)
  have H3 := Lib.hid (fun W h k => outer_any (.slice a' xs.length cap') (.slice a ys.length cap) xs ys q hm2 hm1 hx hy W h k)
  have H4 := Lib.hid (fun v W h => refTurn_any (oR ys xs) (oC ys xs) v (oZ ys xs q) (oZ_length ys xs q) W h)
  obtain ⟨e1, e2, e3⟩ := turn_outer ys xs q
  rw [e1, e2, e3] at H4
  have L1 := Lib.hid (oZ_length ys xs q)
  have L2 := Lib.hid (oZ_length xs ys q)
  clear e1 e2 e3
  generalize oR ys xs = r1 at *
  generalize oC ys xs = c1 at *
  generalize oZ ys xs q = z1 at *
  generalize oR xs ys = r2 at *
  generalize oC xs ys = c2 at *
  generalize oZ xs ys q = z2 at *
  have HV := Lib.hid hv
  have HU := Lib.hid hu
  clear hv hu hy hx hm1 hm2
  go_enter Try.func6, Try.ntmps6
  go_wp2_with fail
  refine (H1.out _ HV.out HU.out).mono ?_
  rintro e w1 ⟨m, rfl, hm, b1⟩
  obtain ⟨am, cm, rfl⟩ := hm.value
  have b2 := (Below.refl w1.heap.size w1).alloc (Nat.le_refl _) (.cells #[.int .i64 r1, .int .i64 c1, .slice am z1.length cm] 29)
  have M2 := Lib.hid (Is3.new w1 (.int .i64 r1) (.int .i64 c1) (.slice am z1.length cm) 29)
  have B2 := Lib.hid (below_step b1 b2)
  have V2 := Lib.hid ((HV.out.later b1).later b2)
  have U2 := Lib.hid ((HU.out.later b1).later b2)
  have Z2 := Lib.hid (hm.later b2)
  clear b1 b2 hm
  go_upto_region 4 with fail
  generalize w1.alloc (.cells #[.int .i64 r1, .int .i64 c1, .slice am z1.length cm] 29) = W2 at *
  generalize w1.heap.size = T at *
  obtain ⟨m0, m1, m2⟩ := M2.out
  go_wp2_with fail
  refine (alive7_any _).mono ?_
  rintro e k1 ⟨rfl, b1⟩
  have c1' := cell_step b1 m0
  have c2' := cell_step b1 m1
  have c3' := cell_step b1 m2
  have BB := Lib.hid b1
  clear b1 m0 m1 m2
  go_wp2_with fail
  refine (back_any r1 c1 (.slice am z1.length cm) ⟨_, _, _, rfl⟩ _).mono ?_
  rintro e k2 ⟨rfl, b1⟩
  have BB2 := Lib.hid (below_step BB.out b1)
  clear b1 c1' c2' c3'
  go_wp2_with fail
  refine (H2.out _ (V2.out.later BB2.out) (U2.out.later BB2.out)).mono ?_
  rintro e k3 ⟨t, rfl, ht, b1⟩
  obtain ⟨at_, ct, rfl⟩ := ht.value
  have X3 := Lib.hid ht
  have BB3 := Lib.hid (below_step BB2.out b1)
  clear ht b1
  go_wp2_with fail
  refine (same_same r1 c1 _ _ z1 L1.out _ (Z2.out.later BB3.out) X3.out).mono ?_
  rintro e k4 ⟨rfl, b1⟩
  have BB4 := Lib.hid (below_step BB3.out b1)
  clear b1
  go_wp2_with fail
  refine (H3.out _ (U2.out.later BB4.out) (V2.out.later BB4.out)).mono ?_
  rintro e k5 ⟨t2, rfl, ht, b1⟩
  obtain ⟨at2, ct2, rfl⟩ := ht.value
  have X5 := Lib.hid ht
  have BB5 := Lib.hid (below_step BB4.out b1)
  clear ht b1
  go_wp2_with fail
  refine (back_any r2 c2 (.slice at2 z2.length ct2) ⟨_, _, _, rfl⟩ _).mono ?_
  rintro e k6 ⟨rfl, b1⟩
  have X6 := Lib.hid (X5.out.later b1)
  have BB6 := Lib.hid (below_step BB5.out b1)
  clear b1
  go_wp2_with fail
  refine (H2.out _ (V2.out.later BB6.out) (U2.out.later BB6.out)).mono ?_
  rintro e k7 ⟨t3, rfl, ht, b1⟩
  obtain ⟨at3, ct3, rfl⟩ := ht.value
  have X7 := Lib.hid (X6.out.later b1)
  have Y7 := Lib.hid ht
  have BB7 := Lib.hid (below_step BB6.out b1)
  clear ht b1
  go_wp2_with fail
  refine (H4.out _ _ Y7.out).mono ?_
  rintro e k8 ⟨t4, rfl, ht, b1⟩
  obtain ⟨at4, ct4, rfl⟩ := ht.value
  have X8 := Lib.hid (X7.out.later b1)
  have Y8 := Lib.hid ht
  have BB8 := Lib.hid (below_step BB7.out b1)
  clear ht b1
  go_wp2_with fail
  refine (same_same r2 c2 _ _ z2 L2.out _ X8.out Y8.out).mono ?_
  rintro e k9 ⟨rfl, b1⟩
  have hb9 := Lib.hid (below_step BB8.out b1)
  clear b1
  go_wp2_with fail
  go_ret
  exact ⟨rfl, below_step B2.out hb9.out⟩
end Go.Proofs.Ytinflmjombcolaa
