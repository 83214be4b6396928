/- The walk of RingOwners. -/
import Derived.Test.YtokdolbmbjfhkaaRingO
namespace Go.Proofs.Ytokdolbmbjfhkaa
open Go.RowKit
set_option maxHeartbeats 2000000 in
theorem walk_owners (s b lo hi n c x : Int) (w : World) :
    Calls Try.prog 6 #[Jv s b lo hi n c, .int .i64 x] w fun e w' => e = .returned (.bool true) ∧ Below w.heap.size w w' := by
  have al := (Below.refl w.heap.size w).alloc (Nat.le_refl _) (.cells (Jc s b lo hi n c) 25)
  have J0 := JobAt.new s b lo hi n c w 25
  unfold Jc at al J0
  have HFew := Lib.hid (fun W => few_any s b lo hi n c W)
  unfold Jv at HFew ⊢
  cases hf : fewJ lo hi n c
  · rw [hf] at HFew
    clear hf
    go_enter Try.func6, Try.ntmps6
    go_wp2_with fail
    refine (HFew.out _).mono ?_
    rintro e w1 ⟨rfl, b1⟩
    go_wp2_with fail
    refine (alive_any _).mono ?_
    rintro e w2 ⟨rfl, b2⟩
    go_wp2_with fail
    go_ret
    exact ⟨rfl, below_step (below_step al b1) b2⟩
  · have hn := fewJ_n hf
    rw [hf] at HFew
    have HOw := Lib.hid (fun W => owner_any s b lo hi n c x hn W)
    have HRef := Lib.hid (fun W => refOwner_any s b lo hi n c x hn W)
    have HGiven := Lib.hid (fun W => given_any s b lo hi n c W)
    have HUp : Hid (n ≠ 1 → ownOk n x = true → ∀ W, Calls Try.prog 11 #[Jv s b lo hi n c, .int .i64 (ownR n x), .int .i64 1, .int .i64 0, .bool true] W fun e w' => e = .returned (.tuple #[.int .i64 x, .bool true]) ∧ Below W.heap.size W w') := Lib.hid (fun h1 ho W => by
      obtain ⟨a1, a2⟩ := seg_up n x (by omega) ho
      have := segment_any s b lo hi n c (ownR n x) 1 0 true hn W
      rw [a1, a2] at this
      exact this)
    unfold Jv at HOw HRef HGiven HUp
    obtain ⟨n0, n1⟩ := hn
    clear hf
    generalize ownR n x = q at *
    generalize ownOk n x = ok at *
    have hqq : (q != q) = false := by simp
    have hoo : (ok != ok) = false := by simp
    go_enter Try.func6, Try.ntmps6
    go_wp2_with fail
    refine (HFew.out _).mono ?_
    rintro e w1 ⟨rfl, b1⟩
    have A1 := below_step al b1
    have K1 := Lib.hid (J0.step b1)
    clear J0
    obtain ⟨c0, c1, c2, c3, c4, c5⟩ := K1.out
    go_wp2_with fail
    refine (HGiven.out _).mono ?_
    rintro e w2 ⟨rfl, b2⟩
    have A2 := below_step A1 b2
    have K2 := Lib.hid (K1.out.step b2)
    clear c0 c1 c2 c3 c4 c5
    obtain ⟨c0, c1, c2, c3, c4, c5⟩ := K2.out
    go_wp2_with fail
    refine (HOw.out _).mono ?_
    rintro e w3 ⟨rfl, b3⟩
    have A3 := below_step A2 b3
    have K3 := Lib.hid (K2.out.step b3)
    clear c0 c1 c2 c3 c4 c5
    obtain ⟨c0, c1, c2, c3, c4, c5⟩ := K3.out
    go_wp2_with fail
    refine (HRef.out _).mono ?_
    rintro e w4 ⟨rfl, b4⟩
    have A4 := below_step A3 b4
    have K4 := Lib.hid (K3.out.step b4)
    clear c0 c1 c2 c3 c4 c5
    obtain ⟨c0, c1, c2, c3, c4, c5⟩ := K4.out
    cases ok
    · go_wp2_with fail
      refine (alive_any _).mono ?_
      rintro e w5 ⟨rfl, b5⟩
      go_wp2_with fail
      go_ret
      exact ⟨rfl, below_step A4 b5⟩
    · by_cases hn1 : n = 1
      · have g1 : (n == 1) = true := by simpa using hn1
        go_wp2_with fail
        refine (alive_any _).mono ?_
        rintro e w5 ⟨rfl, b5⟩
        go_wp2_with fail
        go_ret
        exact ⟨rfl, below_step A4 b5⟩
      · have g1 : (n == 1) = false := by simpa using hn1
        have HU := Lib.hid (HUp.out hn1 rfl)
        go_wp2_with fail
        refine (HGiven.out _).mono ?_
        rintro e w5 ⟨rfl, b5⟩
        have A5 := below_step A4 b5
        go_wp2_with fail
        refine (HU.out _).mono ?_
        rintro e w6 ⟨rfl, b6⟩
        have A6 := below_step A5 b6
        have hxx : (x == x) = true := by simp
        go_wp2_with fail
        refine (alive_any _).mono ?_
        rintro e w7 ⟨rfl, b7⟩
        go_wp2_with fail
        go_ret
        exact ⟨rfl, below_step A6 b7⟩
end Go.Proofs.Ytokdolbmbjfhkaa
