/- The reference's product, bit by bit: for all a and b its two words are those of the product. -/
import Derived.Test.YtinflmjombcolaaFixpP
import Derived.Test.YtinflmjombcolaaProg
import Derived.ProofKit
import Derived.Lib.Hide
namespace Go.Proofs.Ytinflmjombcolaa
open Go.RowKit
set_option maxHeartbeats 2000000 in
theorem refProduct_any (a b : Int) (ha0 : -9223372036854775808 ≤ a) (ha1 : a ≤ 9223372036854775807) (hb0 : -9223372036854775808 ≤ b) (hb1 : b ≤ 9223372036854775807) (w : World) :
    Calls Try.prog 44 #[.int .i64 a, .int .i64 b] w fun e w' => e = .returned (.tuple #[.int .i64 (hi128 (a * b)), .int .u64 (lo128 (a * b))]) ∧ w = w' := by
  go_enter Try.func44, Try.ntmps44
  by_cases ha : a < 0
  · go_wp2
    go_loop [6, 7, 9, 10, 11, 12] (fun hi lo i xlo xhi sum => ∃ (k : Nat), i = .int .i64 k ∧ k ≤ 64 ∧ PInv a b k hi lo) (fun _ _ i _ _ _ => (64 - intOf i).toNat)
    case atStart => exact ⟨0, rfl, by omega, pinv_start a b⟩
    case round =>
      obtain ⟨k, rfl, hk, hp⟩ := hrel
      have HP := Lib.hid hp
      obtain ⟨h, l, rfl, rfl, hh0, hh1, hl0, hl1, hinv⟩ := hp
      clear hinv
      go_wp2
      all_goals try (
        go_round
        case rel =>
          refine ⟨k + 1, by go_num, by omega, ?_⟩
          first
            | (have hb := bit_zero ‹_›; exact pinv_skip HP.out (gathered_skip a b k hb0 hb1 (by omega) hb))
            | (have hz : 0 < k := by assumption
               have h63 := not63 ‹_› ‹_›
               have G := gathered_add a b k h63 (bit_one ‹_›)
               have N := (xmidN a k hz (by omega) ha0 ha)
               first | (have hc : _ < l := ‹IntKind.u64.wrap (l + _) < l›; exact pinv_carry HP.out N (word_range _).1 (word_range _).2 G hc) | (have hc : l ≤ _ := ‹l ≤ IntKind.u64.wrap (l + _)›; exact pinv_plain HP.out N (word_range _).1 (word_range _).2 G hc))
            | (have hz : 0 < k := by assumption
               have h63 := is63 ‹_›
               have G := gathered_sub a b k hb0 hb1 h63 (bit_one ‹_›)
               first
                 | (have N := xneg (xmidN a k hz (by omega) ha0 ha) (or_range _ _).1 (or_range _ _).2 (word_range _).1 (word_range _).2 ‹_›
                    first | (have hc : _ < l := ‹IntKind.u64.wrap (l + _) < l›; exact pinv_carry HP.out N (word_range _).1 (word_range _).2 G hc) | (have hc : l ≤ _ := ‹l ≤ IntKind.u64.wrap (l + _)›; exact pinv_plain HP.out N (word_range _).1 (word_range _).2 G hc))
                 | (have N := xneg' (xmidN a k hz (by omega) ha0 ha) (or_range _ _).1 (or_range _ _).2 (word_range _).1 (word_range _).2 ‹_›
                    first | (have hc : _ < l := ‹IntKind.u64.wrap (l + _) < l›; exact pinv_carry HP.out N (word_range _).1 (word_range _).2 G hc) | (have hc : l ≤ _ := ‹l ≤ IntKind.u64.wrap (l + _)›; exact pinv_plain HP.out N (word_range _).1 (word_range _).2 G hc)))
            | (have hz : ¬ 0 < k := by assumption
               have G := gathered_add a b k (by omega) (bit_one ‹_›)
               have N := (xmid0N a k hz ha0 ha)
               first | (have hc : _ < l := ‹IntKind.u64.wrap (l + _) < l›; exact pinv_carry HP.out N (word_range _).1 (word_range _).2 G hc) | (have hc : l ≤ _ := ‹l ≤ IntKind.u64.wrap (l + _)›; exact pinv_plain HP.out N (word_range _).1 (word_range _).2 G hc))
        case measure => simp [intOf]; omega)
      obtain rfl : k = 64 := by omega
      obtain ⟨e1, e2⟩ := pinv_end ha0 ha1 hb0 hb1 HP.out
      go_ret2
      exact ⟨ret_words e1 e2, rfl⟩
  · go_wp2
    go_loop [6, 7, 9, 10, 11, 12] (fun hi lo i xlo xhi sum => ∃ (k : Nat), i = .int .i64 k ∧ k ≤ 64 ∧ PInv a b k hi lo) (fun _ _ i _ _ _ => (64 - intOf i).toNat)
    case atStart => exact ⟨0, rfl, by omega, pinv_start a b⟩
    case round =>
      obtain ⟨k, rfl, hk, hp⟩ := hrel
      have HP := Lib.hid hp
      obtain ⟨h, l, rfl, rfl, hh0, hh1, hl0, hl1, hinv⟩ := hp
      clear hinv
      go_wp2
      all_goals try (
        go_round
        case rel =>
          refine ⟨k + 1, by go_num, by omega, ?_⟩
          first
            | (have hb := bit_zero ‹_›; exact pinv_skip HP.out (gathered_skip a b k hb0 hb1 (by omega) hb))
            | (have hz : 0 < k := by assumption
               have h63 := not63 ‹_› ‹_›
               have G := gathered_add a b k h63 (bit_one ‹_›)
               have N := (xmidP a k hz (by omega) ha1 ha)
               first | (have hc : _ < l := ‹IntKind.u64.wrap (l + _) < l›; exact pinv_carry HP.out N (word_range _).1 (word_range _).2 G hc) | (have hc : l ≤ _ := ‹l ≤ IntKind.u64.wrap (l + _)›; exact pinv_plain HP.out N (word_range _).1 (word_range _).2 G hc))
            | (have hz : 0 < k := by assumption
               have h63 := is63 ‹_›
               have G := gathered_sub a b k hb0 hb1 h63 (bit_one ‹_›)
               first
                 | (have N := xneg (xmidP a k hz (by omega) ha1 ha) (or_range _ _).1 (or_range _ _).2 (word_range _).1 (word_range _).2 ‹_›
                    first | (have hc : _ < l := ‹IntKind.u64.wrap (l + _) < l›; exact pinv_carry HP.out N (word_range _).1 (word_range _).2 G hc) | (have hc : l ≤ _ := ‹l ≤ IntKind.u64.wrap (l + _)›; exact pinv_plain HP.out N (word_range _).1 (word_range _).2 G hc))
                 | (have N := xneg' (xmidP a k hz (by omega) ha1 ha) (or_range _ _).1 (or_range _ _).2 (word_range _).1 (word_range _).2 ‹_›
                    first | (have hc : _ < l := ‹IntKind.u64.wrap (l + _) < l›; exact pinv_carry HP.out N (word_range _).1 (word_range _).2 G hc) | (have hc : l ≤ _ := ‹l ≤ IntKind.u64.wrap (l + _)›; exact pinv_plain HP.out N (word_range _).1 (word_range _).2 G hc)))
            | (have hz : ¬ 0 < k := by assumption
               have G := gathered_add a b k (by omega) (bit_one ‹_›)
               have N := (xmid0P a k hz ha1 ha)
               first | (have hc : _ < l := ‹IntKind.u64.wrap (l + _) < l›; exact pinv_carry0 HP.out N (word_range _).1 (word_range _).2 G hc) | (have hc : l ≤ _ := ‹l ≤ IntKind.u64.wrap (l + _)›; exact pinv_plain0 HP.out N (word_range _).1 (word_range _).2 G hc))
        case measure => simp [intOf]; omega)
      obtain rfl : k = 64 := by omega
      obtain ⟨e1, e2⟩ := pinv_end ha0 ha1 hb0 hb1 HP.out
      go_ret2
      exact ⟨ret_words e1 e2, rfl⟩
end Go.Proofs.Ytinflmjombcolaa
