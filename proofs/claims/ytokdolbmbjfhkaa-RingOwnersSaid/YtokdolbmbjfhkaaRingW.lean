/- The walk of RingSegments. -/
import Derived.Test.YtokdolbmbjfhkaaRingS
import Derived.Test.YtokdolbmbjfhkaaRingR
namespace Go.Proofs.Ytokdolbmbjfhkaa
open Go.RowKit
theorem segment_any (s b lo hi n c x p r : Int) (send : Bool) (hn : 1 ≤ n ∧ n ≤ 64) (w : World) :
    Calls Try.prog 11 #[Jv s b lo hi n c, .int .i64 x, .int .i64 p, .int .i64 r, .bool send] w fun e w' => e = .returned (.tuple #[.int .i64 (segR n x p r send), .bool (segOk n x p r)]) ∧ Below w.heap.size w w' := by
  unfold segR
  cases h : segOk n x p r
  · exact segment_no s b lo hi n c x p r send hn h w
  · exact segment_yes s b lo hi n c x p r send hn h w
theorem refSegment_any (s b lo hi n c x p r : Int) (send : Bool) (hn : 1 ≤ n ∧ n ≤ 64) (w : World) :
    Calls Try.prog 12 #[Jv s b lo hi n c, .int .i64 x, .int .i64 p, .int .i64 r, .bool send] w fun e w' => e = .returned (.tuple #[.int .i64 (segR n x p r send), .bool (segOk n x p r)]) ∧ Below w.heap.size w w' := by
  unfold segR
  cases h : segOk n x p r
  · exact refSegment_no s b lo hi n c x p r send hn h w
  · exact refSegment_yes s b lo hi n c x p r send hn h w
set_option maxHeartbeats 1000000 in
theorem alive_any (w : World) :
    Calls Try.prog 9 #[] w fun e w' => e = .returned (.bool true) ∧ Below w.heap.size w w' := by
  have al := (Below.refl w.heap.size w).alloc (Nat.le_refl _) (.cells (Jc 0 0 0 3 3 1) 32)
  have J0 := JobAt.new 0 0 0 3 3 1 w 32
  unfold Jc at al J0
  have H1 := Lib.hid (fun W => segment_any 0 0 0 3 3 1 0 0 1 true (by omega) W)
  have H2 := Lib.hid (fun W => segment_any 0 0 0 3 3 1 0 1 0 true (by omega) W)
  have H3 := Lib.hid (fun W => rounds_any 0 0 0 3 3 1 (by omega) W)
  rw [show segR 3 0 0 1 true = 2 by decide, show segOk 3 0 0 1 = true by decide] at H1
  rw [show segR 3 0 1 0 true = 1 by decide, show segOk 3 0 1 0 = true by decide] at H2
  unfold Jv at H1 H2 H3
  go_enter Try.func9, Try.ntmps9
  go_wp2_with fail
  refine (H1.out _).mono ?_
  rintro e w1 ⟨rfl, b1⟩
  have J1 := Lib.hid (J0.step b1)
  obtain ⟨c0, c1, c2, c3, c4, c5⟩ := J1.out
  have B1 := below_step al b1
  go_wp2_with fail
  refine (H2.out _).mono ?_
  rintro e w2 ⟨rfl, b2⟩
  have J2 := Lib.hid (J1.out.step b2)
  clear c0 c1 c2 c3 c4 c5
  obtain ⟨c0, c1, c2, c3, c4, c5⟩ := J2.out
  have B2 := below_step B1 b2
  go_wp2_with fail
  refine (H3.out _).mono ?_
  rintro e w3 ⟨rfl, b3⟩
  go_wp2_with fail
  go_ret
  exact ⟨rfl, below_step B2 b3⟩
theorem fewJ_n {lo hi n c : Int} (h : fewJ lo hi n c = true) : 1 ≤ n ∧ n ≤ 64 := by
  unfold fewJ at h
  simp only [Bool.and_eq_true, decide_eq_true_eq] at h
  omega
set_option maxHeartbeats 2000000 in
theorem walk_segments (s b lo hi n c x p r : Int) (send : Bool) (w : World) :
    Calls Try.prog 3 #[Jv s b lo hi n c, .agg #[.int .i64 x, .int .i64 p, .int .i64 r], .bool send] w fun e w' => e = .returned (.bool true) ∧ Below w.heap.size w w' := by
  have al0 := (Below.refl w.heap.size w).alloc (Nat.le_refl _) (.cells (Jc s b lo hi n c) 25)
  have J0 := JobAt.new s b lo hi n c w 25
  have al1 := (Below.refl (w.alloc (.cells (Jc s b lo hi n c) 25)).heap.size (w.alloc (.cells (Jc s b lo hi n c) 25))).alloc (Nat.le_refl _) (.cells #[.int .i64 x, .int .i64 p, .int .i64 r] 26)
  have q0 := cell_new (w.alloc (.cells (Jc s b lo hi n c) 25)) #[.int .i64 x, .int .i64 p, .int .i64 r] 26 0
  have q1 := cell_new (w.alloc (.cells (Jc s b lo hi n c) 25)) #[.int .i64 x, .int .i64 p, .int .i64 r] 26 1
  have q2 := cell_new (w.alloc (.cells (Jc s b lo hi n c) 25)) #[.int .i64 x, .int .i64 p, .int .i64 r] 26 2
  rw [World.size_alloc] at q0 q1 q2
  simp only [List.getElem?_toArray, List.getElem?_cons_zero, List.getElem?_cons_succ] at q0 q1 q2
  have J1 := J0.step al1
  have A1 := below_step al0 al1
  unfold Jc at al0 J1 al1 q0 q1 q2 A1
  have HQ := Lib.hid (And.intro q0 (And.intro q1 (And.intro q2 (And.intro J1 A1))))
  have HFew := Lib.hid (fun W => few_any s b lo hi n c W)
  unfold Jv at HFew ⊢
  clear q0 q1 q2 J1 A1 al0 al1 J0
  cases hf : fewJ lo hi n c
  · rw [hf] at HFew
    clear hf
    go_enter Try.func3, Try.ntmps3
    go_wp2_with fail
    refine (HFew.out _).mono ?_
    rintro e w1 ⟨rfl, b1⟩
    go_wp2_with fail
    refine (alive_any _).mono ?_
    rintro e w2 ⟨rfl, b2⟩
    go_wp2_with fail
    go_ret
    obtain ⟨_, _, _, _, A1⟩ := HQ.out
    exact ⟨rfl, below_step (below_step A1 b1) b2⟩
  · have hn := fewJ_n hf
    rw [hf] at HFew
    have HSeg := Lib.hid (fun W => segment_any s b lo hi n c x p r send hn W)
    have HRef := Lib.hid (fun W => refSegment_any s b lo hi n c x p r send hn W)
    have HGiven := Lib.hid (fun W => given_any s b lo hi n c W)
    have HRounds := Lib.hid (fun W => rounds_any s b lo hi n c hn W)
    unfold Jv at HSeg HRef HGiven HRounds
    obtain ⟨n0, n1⟩ := hn
    clear hf
    generalize segR n x p r send = q at *
    generalize segOk n x p r = ok at *
    go_enter Try.func3, Try.ntmps3
    go_wp2_with fail
    refine (HFew.out _).mono ?_
    rintro e w1 ⟨rfl, b1⟩
    obtain ⟨q0, q1, q2, J1, A1⟩ := HQ.out
    have q0 := cell_step b1 q0
    have q1 := cell_step b1 q1
    have q2 := cell_step b1 q2
    have K1 := Lib.hid (J1.step b1)
    have A1 := below_step A1 b1
    clear J1
    go_wp2_with fail
    go_quiet (fail)
    obtain ⟨c0, c1, c2, c3, c4, c5⟩ := K1.out
    go_wp2_with fail
    refine (HGiven.out _).mono ?_
    rintro e w2 ⟨rfl, b2⟩
    have A2 := below_step (below_drewN A1 nq) b2
    have K2 := Lib.hid ((show JobAt w.heap.size s b lo hi n c (w1.drewN nq) from K1.out).step b2)
    clear c0 c1 c2 c3 c4 c5 q0 q1 q2
    obtain ⟨c0, c1, c2, c3, c4, c5⟩ := K2.out
    go_wp2_with fail
    refine (HSeg.out _).mono ?_
    rintro e w3 ⟨rfl, b3⟩
    have A3 := below_step A2 b3
    have K3 := Lib.hid (K2.out.step b3)
    clear c0 c1 c2 c3 c4 c5
    obtain ⟨c0, c1, c2, c3, c4, c5⟩ := K3.out
    go_wp2_with fail
    refine (HRef.out _).mono ?_
    rintro e w4 ⟨rfl, b4⟩
    have A4 := below_step A3 b4
    have K4 := Lib.hid (K3.out.step b4)
    clear c0 c1 c2 c3 c4 c5
    obtain ⟨c0, c1, c2, c3, c4, c5⟩ := K4.out
    have hqq : (q == q) = true := by simp
    have hoo : (ok == ok) = true := by simp
    have HAl := Lib.hid (fun W => alive_any W)
    have wn : IntKind.i64.wrap (n - 1) = n - 1 := IntWalk.i64_in _ (by omega)
    have wn2 : IntKind.i64.wrap (2 * (n - 1)) = 2 * (n - 1) := IntWalk.i64_in _ (by omega)
    have hnn : (2 * (n - 1) == 2 * (n - 1)) = true := by simp
    go_wp2_with fail
    go_region_held3 (fun w' => w'.cell? ⟨w.heap.size, 0, none⟩ = some (.int .i64 s) ∧ w'.cell? ⟨w.heap.size, 1, none⟩ = some (.int .i64 b) ∧ w'.cell? ⟨w.heap.size, 2, none⟩ = some (.int .i64 lo) ∧ w'.cell? ⟨w.heap.size, 3, none⟩ = some (.int .i64 hi) ∧ w'.cell? ⟨w.heap.size, 4, none⟩ = some (.int .i64 n) ∧ w'.cell? ⟨w.heap.size, 5, none⟩ = some (.int .i64 c) ∧ Below w4.heap.size w4 w') (first | exact ⟨c0, c1, c2, c3, c4, c5, (Below.refl _ _).drew⟩ | (obtain ⟨k0, k1, k2, k3, k4, k5, k6⟩ := ‹_ ∧ _ ∧ _ ∧ _ ∧ _ ∧ _ ∧ Below _ _ _›; exact ⟨cell_step ‹_› k0, cell_step ‹_› k1, cell_step ‹_› k2, cell_step ‹_› k3, cell_step ‹_› k4, cell_step ‹_› k5, below_step k6 ‹_›⟩)) (first | (go_at_call 9; with_reducible refine (HAl.out _).mono ?_; rintro e w5 ⟨rfl, h5⟩) | (go_at_call 10; with_reducible refine (HGiven.out _).mono ?_; rintro e w6 ⟨rfl, h6⟩) | (go_at_call 13; with_reducible refine (HRounds.out _).mono ?_; rintro e w7 ⟨rfl, h7⟩))
    go_wp2_with fail
    go_ret
    obtain ⟨_, _, _, _, _, _, k6⟩ := ‹_ ∧ _ ∧ _ ∧ _ ∧ _ ∧ _ ∧ Below _ _ _›
    exact ⟨rfl, below_step A4 k6⟩
end Go.Proofs.Ytokdolbmbjfhkaa
