/- Layer 18: a link holds at most its capacity. -/
import Derived.Test.YtgbgmmakiimbbaaLnkS
namespace Go.Proofs.Ytgbgmmakiimbbaa
open Go.RowKit
set_option linter.unusedVariables false
theorem new_nil (cap : Int) (w : World) (h : cap < 1 ∨ 1048576 < cap) (hc : -9223372036854775808 ≤ cap ∧ cap ≤ 9223372036854775807) :
    Calls Try.prog 8 #[.int .i64 cap] w fun e w' => e = .returned (.pointer none) ∧ Below w.heap.size w w' :=
  (new_none cap w h hc).mono fun e w' hh => by first | exact hh | exact ⟨hh.1, by rw [hh.2]; exact Below.refl _ _⟩
/-- the messages that LinkBounds sends -/
def bMs (k : Nat) : List Ms := (List.range k).map fun (i : Nat) => ⟨⟨0, 0, 0, 0, (i : Int)⟩, []⟩
theorem bMs_length (k : Nat) : (bMs k).length = k := by simp [bMs]
theorem bMs_succ (k : Nat) : bMs (k + 1) = bMs k ++ [⟨⟨0, 0, 0, 0, (k : Int)⟩, []⟩] := by simp [bMs, List.range_succ]
theorem bMs_ok (cap k hi : Nat) (hc : cap ≤ 1048576) (hh : hi ≤ 1048576) : LinkOk cap (bMs k) 0 hi := ⟨hc, by decide, hh, fun m hm => by
  simp only [bMs, List.mem_map] at hm
  obtain ⟨i, _, rfl⟩ := hm
  show 0 * 8 ≤ _
  decide⟩
set_option maxRecDepth 8000 in
set_option maxHeartbeats 4000000 in
theorem walk_bounds (cap n : Int) (hcap : -9223372036854775808 ≤ cap ∧ cap ≤ 9223372036854775807) (hn : 0 ≤ n ∧ n ≤ 255) (w : World) :
    Calls Try.prog 6 #[.int .i64 cap, .int .u8 n] w fun e w' => e = .returned (.bool true) ∧ Below w.heap.size w w' := by
  by_cases hr : 1 ≤ cap ∧ cap ≤ 1048576
  · obtain ⟨r1, r2⟩ := hr
    obtain ⟨c, rfl⟩ : ∃ c : Nat, cap = c := ⟨cap.toNat, by omega⟩
    obtain ⟨N, rfl⟩ : ∃ N : Nat, n = N := ⟨n.toNat, by omega⟩
    have g1 : decide ((c : Int) < 1) = false := by simp; omega
    have g2 : decide ((1048576 : Int) < c) = false := by simp; omega
    have g3 : ¬ (c : Int) < 1 := by omega
    have g4 : ¬ (1048576 : Int) < c := by omega
    go_enter Try.func6, Try.ntmps6
    go_wp2_with fail
    refine (new_any c w r1 r2).mono ?_
    rintro e w1 ⟨rfl, hL, b1⟩
    rw [Int.toNat_natCast] at hL
    have L : LinkAt w.heap.size c [] 0 0 w1 := LinkAt.new hL
    have R : ringB w.heap.size w1 = none := ringB_of hL
    clear hL
    go_upto_region 5 with fail
    have hbw : w.heap.size < w1.heap.size := L.lt
    have F := Four.new w1 29 (.int .i64 c) (.slice none 0 0) (.int .i64 0) (.int .i64 0)
    have c2 := (Below.refl w1.heap.size w1).alloc (Nat.le_refl _) (.cells #[.int .i64 c, .slice none 0 0, .int .i64 0, .int .i64 0] 29)
    have B2 := Lib.hid (b1.trans (c2.mono b1.size))
    have H : Both w.heap.size w.heap.size w1.heap.size c [] 0 0 (.slice none 0 0) [] 0 0 (w1.alloc (.cells #[.int .i64 c, .slice none 0 0, .int .i64 0, .int .i64 0] 29)) :=
      ⟨L.later c2, F, SentAt.nil _ _ _, (fun k hk => by rw [ringB_later L c2, R] at hk; cases hk), Nat.le_refl _, hbw⟩
    clear L R F c2 b1
    generalize w1.alloc (.cells #[.int .i64 c, .slice none 0 0, .int .i64 0, .int .i64 0] 29) = w2 at *
    generalize w1.heap.size = bw at *
    have wN : IntKind.i64.wrap (N : Int) = N := IntWalk.i64_in _ (by omega)
    have HH := Lib.hid H
    clear H g1 g2 g3 g4 hcap
    go_wp2_with fail
    go_loopw [7, 8, 9, 10, 28] (fun _ _ _ _ i wr => ∃ (k : Nat) (sv : Value), k ≤ N ∧ i = .int .i64 k ∧ Both w.heap.size w.heap.size bw c (bMs (min k c)) 0 (min k c) sv (bMs (min k c)) 0 (min k c) wr ∧ Below w.heap.size w wr) (fun _ _ _ _ i _ => N - (intOf i).toNat)
    case atStart => exact ⟨0, _, Nat.zero_le _, rfl, by rw [Nat.zero_min]; exact HH.out, B2.out⟩
    case round =>
      clear HH B2
      obtain ⟨k, sv, hk, rfl, H, hB⟩ := hrel
      by_cases hlt : k < N
      · have hdec : decide ((k : Int) < (N : Int)) = true := by simp; omega
        have wk1 : IntKind.i64.wrap ((k : Int) + 1) = k + 1 := IntWalk.i64_in _ (by omega)
        have S0 := Six.new wr 34 (.int .i64 0) (.int .i64 0) (.int .i64 0) (.int .i64 0) (.int .i64 k) (.slice none 0 0)
        have c1 := (Below.refl wr.heap.size wr).alloc (Nat.le_refl _) (.cells #[.int .i64 0, .int .i64 0, .int .i64 0, .int .i64 0, .int .i64 k, .slice none 0 0] 34)
        have hbw2 : bw < wr.heap.size := H.four.lt
        have hnr : ∀ j, ringB w.heap.size (wr.alloc (.cells #[.int .i64 0, .int .i64 0, .int .i64 0, .int .i64 0, .int .i64 k, .slice none 0 0] 34)) = some j → j < wr.heap.size := fun j hj => (H.link.ring (by rw [← ringB_later H.link c1]; exact hj)).2
        replace H := H.later c1
        have B1 := Lib.hid (hB.trans (c1.mono hB.size))
        clear hB c1
        obtain ⟨sa, sc, rfl⟩ := H.sent.value
        rw [bMs_length] at H
        have HH := Lib.hid H
        have S0h := Lib.hid S0
        clear H S0
        go_upto_region 9 with fail
        generalize wr.alloc (.cells #[.int .i64 0, .int .i64 0, .int .i64 0, .int .i64 0, .int .i64 k, .slice none 0 0] 34) = w3 at *
        generalize wr.heap.size = bm at *
        by_cases hkc : k < c
        · skip
          have e0 : min k c = k := by omega
          rw [e0] at HH
          obtain ⟨k1, hk1⟩ : ∃ k1, k1 = k + 1 := ⟨_, rfl⟩
          have HK1 := Lib.hid hk1
          have hl1 : (bMs k).length = k := bMs_length k
          have HSD := refSend_room c (.slice sa k sc) (.slice none 0 0) (bMs k) [] 0 k ⟨0, 0, 0, 0, k⟩ w.heap.size (w.heap.size + 1) (by omega) (by omega) (by omega) (by omega) w3 HH.out.sent B1.out.size (.inr IntsAt.nil)
          rw [show max k ((bMs k).length + 1 - 0) = k1 by omega, ← bMs_succ, ← hk1] at HSD
          clear hk1 hl1
          clear e0
          obtain ⟨c0, c1, c2, c3⟩ := HH.out.four.cells
          obtain ⟨⟨s0, s1, s2⟩, s3, s4, s5⟩ := S0h.out.cells
          have hbm : bm < w3.heap.size := S0h.out.lt
          go_wp2_with fail
          refine HSD.mono ?_
          clear HSD c0 c1 c2 c3 s0 s1 s2 s3 s4 s5
          rintro e w4 ⟨sv', rfl, SN, b4⟩
          obtain ⟨ya, yc, rfl⟩ : ∃ a c', sv' = .slice a k1 c' := by have := SN.value; rw [bMs_length] at this; exact this
          unfold encL
          have H := HH.out.later b4
          have S4 := S0h.out.later b4
          have B4 := Lib.hid (B1.out.trans (b4.mono B1.out.size))
          have R4 := ringB_later HH.out.link b4
          have HH4 := HH
          have HL4 := Lib.hid H.link
          clear HH S0h B1 b4
          have F9 := Four.new w4 29 (.int .i64 c) (.slice ya k1 yc) (.int .i64 0) (.int .i64 k1)
          have c5 := (Below.refl w4.heap.size w4).alloc (Nat.le_refl _) (.cells #[.int .i64 c, .slice ya k1 yc, .int .i64 0, .int .i64 k1] 29)
          replace H := H.later c5
          replace S4 := S4.later c5
          have HF : ∀ j, ringB w.heap.size (w4.alloc (.cells #[.int .i64 c, .slice ya k1 yc, .int .i64 0, .int .i64 k1] 29)) = some j → (Value.slice ya k1 yc).ownBlock ≠ some j := fun j hj e => by
            obtain ⟨cs, ho, _⟩ := SN
            have h1 := (ho.lt j e).1
            have h2 := (HH4.out.link.ring (k := j) (by rw [← R4, ← ringB_later HL4.out c5]; exact hj)).2
            omega
          replace SN := SN.later c5 B4.out.size
          have B5 := Lib.hid (B4.out.trans (c5.mono B4.out.size))
          clear c5 B4 R4 HH4 HL4
          go_upto_region 10 with fail
          generalize w4.alloc (.cells #[.int .i64 c, .slice ya k1 yc, .int .i64 0, .int .i64 k1] 29) = w5 at *
          generalize w4.heap.size = bx at *
          obtain ⟨x0, x1, x2, x3⟩ := F9.cells
          obtain ⟨c0, c1, c2, c3⟩ := H.four.cells
          have f0 := H.four.frozen 0
          have f1 := H.four.frozen 1
          have f2 := H.four.frozen 2
          have f3 := H.four.frozen 3
          have G := grown_four w5 bw (.int .i64 c) (.slice ya k1 yc) (.int .i64 0) (.int .i64 k1)
          have S6 := Lib.hid (S4.kept G (fun e => by have := Option.some.inj e; omega))
          have B6 := Lib.hid (B5.out.trans ((below_four w5 bw (.int .i64 c) (.slice ya k1 yc) (.int .i64 0) (.int .i64 k1)).mono (by have := H.ord; omega)))
          have H6 : Both w.heap.size w.heap.size bw c (bMs k) 0 k (.slice ya k1 yc) (bMs k1) 0 k1 ((((w5.setCell ⟨bw, 0, none⟩ (.int .i64 c)).setCell ⟨bw, 1, none⟩ (.slice ya k1 yc)).setCell ⟨bw, 2, none⟩ (.int .i64 0)).setCell ⟨bw, 3, none⟩ (.int .i64 k1)) := H.refs (rr' := 0) (pk' := k1) SN (by omega) (fun j hj => HF j hj)
          have HH := Lib.hid H6
          clear H H6 G S4 B5 F9 SN
          go_upto_region 11 with fail
          clear x0 x1 x2 x3 c0 c1 c2 c3 f0 f1 f2 f3
          generalize ((((w5.setCell ⟨bw, 0, none⟩ (.int .i64 c)).setCell ⟨bw, 1, none⟩ (.slice ya k1 yc)).setCell ⟨bw, 2, none⟩ (.int .i64 0)).setCell ⟨bw, 3, none⟩ (.int .i64 k1)) = w6 at *
          obtain ⟨⟨s0, s1, s2⟩, s3, s4, s5⟩ := S6.out.cells
          go_wp2_with fail
          clear s0 s1 s2 s3 s4 s5
          have hlt6 := HH.out.link.lt
          refine (send_ok w.heap.size c 0 k (bMs k) ⟨0, 0, 0, 0, k⟩ (.slice none 0 0) [] (by decide) w6 (fun _ _ => .inr IntsAt.nil) HH.out.link (bMs_ok c k k (by omega) (by omega)) (by rw [bMs_length]; exact hkc)).mono ?_
          rintro e w7 ⟨rfl, l7, t7, r7⟩
          rw [← bMs_succ, bMs_length, ← HK1.out, show max k k1 = k1 by have := HK1.out; omega] at l7
          have H7 := Lib.hid (HH.out.touch l7 t7 r7)
          have B7 := Lib.hid (B6.out.trans t7.1)
          clear l7 t7 r7 HH B6 S6
          have e1 : min (k + 1) c = k1 := by have := HK1.out; omega
          go_wp2_with fail
          go_roundw
          case rel => exact ⟨k + 1, _, by omega, by go_num, by rw [e1]; exact H7.out, B7.out⟩
          case measure => simp [intOf]; omega
        · skip
          have e0 : min k c = c := by omega
          rw [e0] at HH
          have HSD := refSend_full c sa c sc 0 c ⟨0, 0, 0, 0, k⟩ (.slice none 0 0) (by omega) (by omega) (by omega) w3
          clear e0
          obtain ⟨c0, c1, c2, c3⟩ := HH.out.four.cells
          obtain ⟨⟨s0, s1, s2⟩, s3, s4, s5⟩ := S0h.out.cells
          have hbm : bm < w3.heap.size := S0h.out.lt
          go_wp2_with fail
          refine HSD.mono ?_
          clear HSD c0 c1 c2 c3 s0 s1 s2 s3 s4 s5
          rintro e w4 ⟨rfl, b4⟩
          unfold encL
          have H := HH.out.later b4
          have S4 := S0h.out.later b4
          have B4 := Lib.hid (B1.out.trans (b4.mono B1.out.size))
          have R4 := ringB_later HH.out.link b4
          have HH4 := HH
          have HL4 := Lib.hid H.link
          clear HH S0h B1 b4
          have F9 := Four.new w4 29 (.int .i64 c) (.slice sa c sc) (.int .i64 0) (.int .i64 c)
          have c5 := (Below.refl w4.heap.size w4).alloc (Nat.le_refl _) (.cells #[.int .i64 c, .slice sa c sc, .int .i64 0, .int .i64 c] 29)
          replace H := H.later c5
          replace S4 := S4.later c5
          have B5 := Lib.hid (B4.out.trans (c5.mono B4.out.size))
          clear c5 B4 R4 HH4 HL4
          go_upto_region 10 with fail
          generalize w4.alloc (.cells #[.int .i64 c, .slice sa c sc, .int .i64 0, .int .i64 c] 29) = w5 at *
          generalize w4.heap.size = bx at *
          obtain ⟨x0, x1, x2, x3⟩ := F9.cells
          obtain ⟨c0, c1, c2, c3⟩ := H.four.cells
          have f0 := H.four.frozen 0
          have f1 := H.four.frozen 1
          have f2 := H.four.frozen 2
          have f3 := H.four.frozen 3
          have G := grown_four w5 bw (.int .i64 c) (.slice sa c sc) (.int .i64 0) (.int .i64 c)
          have S6 := Lib.hid (S4.kept G (fun e => by have := Option.some.inj e; omega))
          have B6 := Lib.hid (B5.out.trans ((below_four w5 bw (.int .i64 c) (.slice sa c sc) (.int .i64 0) (.int .i64 c)).mono (by have := H.ord; omega)))
          have H6 : Both w.heap.size w.heap.size bw c (bMs c) 0 c (.slice sa c sc) (bMs c) 0 c ((((w5.setCell ⟨bw, 0, none⟩ (.int .i64 c)).setCell ⟨bw, 1, none⟩ (.slice sa c sc)).setCell ⟨bw, 2, none⟩ (.int .i64 0)).setCell ⟨bw, 3, none⟩ (.int .i64 c)) := H.refs (rr' := 0) (pk' := c) H.sent (Nat.lt_succ_self _) (fun j hj => (H.ring j hj).2)
          have HH := Lib.hid H6
          clear H H6 G S4 B5 F9
          go_upto_region 11 with fail
          clear x0 x1 x2 x3 c0 c1 c2 c3 f0 f1 f2 f3
          generalize ((((w5.setCell ⟨bw, 0, none⟩ (.int .i64 c)).setCell ⟨bw, 1, none⟩ (.slice sa c sc)).setCell ⟨bw, 2, none⟩ (.int .i64 0)).setCell ⟨bw, 3, none⟩ (.int .i64 c)) = w6 at *
          obtain ⟨⟨s0, s1, s2⟩, s3, s4, s5⟩ := S6.out.cells
          go_wp2_with fail
          clear s0 s1 s2 s3 s4 s5
          have hlt6 := HH.out.link.lt
          refine (send_full w.heap.size c 0 c (bMs c) ⟨0, 0, 0, 0, k⟩ (.slice none 0 0) w6 HH.out.link (bMs_ok c c c (by omega) (by omega)) (bMs_length c)).mono ?_
          rintro e w7 ⟨rfl, b7⟩
          have H7 := Lib.hid (HH.out.later b7)
          have B7 := Lib.hid (B6.out.trans (b7.mono B6.out.size))
          clear b7 HH B6 S6
          have e1 : min (k + 1) c = c := by omega
          go_wp2_with fail
          go_roundw
          case rel => exact ⟨k + 1, _, by omega, by go_num, by rw [e1]; exact H7.out, B7.out⟩
          case measure => simp [intOf]; omega
      · have hkN : k = N := by omega
        subst hkN
        have hdec : decide ((k : Int) < (k : Int)) = false := by simp
        have HH := Lib.hid H
        have B1 := Lib.hid hB
        clear H hB
        go_wp2_with fail
        refine (alive18_any wr).mono ?_
        rintro e w2 ⟨rfl, b2⟩
        have H := HH.out.later b2
        have B2 := Lib.hid (B1.out.trans (b2.mono B1.out.size))
        clear HH B1 b2
        obtain ⟨m, hm⟩ : ∃ m, m = min k c := ⟨_, rfl⟩
        rw [← hm] at H
        have HS := Lib.hid (same18_any w.heap.size c 0 m (bMs m) sv (bMs m) rfl (by rw [Nat.zero_add]) (by rw [bMs_length]; omega) w2 H.link (bMs_ok c m m (by omega) (by omega)) (H.sent.msgs B2.out.size))
        obtain ⟨c0, c1, c2, c3⟩ := H.four.cells
        have HP := Lib.hid (fun w' (hb : Below w2.heap.size w2 w') => linkPeak w.heap.size c 0 m (bMs m) w' (H.link.later hb))
        have HMI := Lib.hid hm
        clear H hm
        go_wp2_with fail
        refine HS.out.mono ?_
        rintro e w3 ⟨rfl, b3⟩
        have B3 := Lib.hid (B2.out.trans (b3.mono B2.out.size))
        have HP3 := Lib.hid (HP.out w3 b3)
        clear b3 HP HS B2 c0 c1 c2 c3
        by_cases hh : k < c
        · obtain rfl : m = k := by have := HMI.out; omega
          have g5 : (m : Int) < (c : Int) := by omega
          have g6 : ¬ (c : Int) < (m : Int) := by omega
          have g7 : ¬ (c : Int) ≤ (m : Int) := by omega
          go_wp2_with fail
          refine HP3.out.mono ?_
          rintro e w4 ⟨rfl, b4⟩
          have B4 := Lib.hid (B3.out.trans (b4.mono B3.out.size))
          clear b4 HP3 B3
          go_wp2_with fail
          go_ret
          exact ⟨by simp, B4.out⟩
        · obtain ⟨hmc⟩ : Nonempty (m = c) := ⟨by have := HMI.out; omega⟩
          rcases Nat.lt_or_ge c k with h2 | h2
          · have g5 : (c : Int) < (k : Int) := by omega
            go_wp2_with fail
            refine HP3.out.mono ?_
            rintro e w4 ⟨rfl, b4⟩
            have B4 := Lib.hid (B3.out.trans (b4.mono B3.out.size))
            clear b4 HP3 B3
            have hmc2 : ((m : Int) == (c : Int)) = true := by simp; omega
            go_wp2_with fail
            go_ret
            exact ⟨by simp, B4.out⟩
          · have g5 : ¬ (c : Int) < (k : Int) := by omega
            go_wp2_with fail
            refine HP3.out.mono ?_
            rintro e w4 ⟨rfl, b4⟩
            have B4 := Lib.hid (B3.out.trans (b4.mono B3.out.size))
            clear b4 HP3 B3
            have hmc2 : ((m : Int) == (k : Int)) = true := by simp; omega
            go_wp2_with fail
            go_ret
            exact ⟨by simp; omega, B4.out⟩
  · have hB0 := Below.refl w.heap.size w
    have h' : cap < 1 ∨ 1048576 < cap := by omega
    have HN := Lib.hid (new_nil cap w h' hcap)
    rcases h' with h1 | h1
    · have g1 : decide (cap < 1) = true := by simpa using h1
      go_enter Try.func6, Try.ntmps6
      go_wp2_with fail
      refine HN.out.mono ?_
      rintro e w1 ⟨rfl, b1⟩
      go_wp2_with fail
      refine (alive18_any w1).mono ?_
      rintro e w2 ⟨rfl, b2⟩
      have B2 := Lib.hid (b1.trans (b2.mono b1.size))
      clear b1 b2 HN
      go_wp2_with fail
      go_ret
      exact ⟨rfl, B2.out⟩
    · have g1 : decide ((1048576 : Int) < cap) = true := by simpa using h1
      have g2 : decide (cap < 1) = false := by simp; omega
      have g3 : ¬ cap < 1 := by omega
      go_enter Try.func6, Try.ntmps6
      go_wp2_with fail
      refine HN.out.mono ?_
      rintro e w1 ⟨rfl, b1⟩
      go_wp2_with fail
      refine (alive18_any w1).mono ?_
      rintro e w2 ⟨rfl, b2⟩
      have B2 := Lib.hid (b1.trans (b2.mono b1.size))
      clear b1 b2 HN
      go_wp2_with fail
      go_ret
      exact ⟨rfl, B2.out⟩
end Go.Proofs.Ytgbgmmakiimbbaa
