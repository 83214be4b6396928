/- Layer 8: all ranges of a shape. -/
import Derived.Test.YtdnaildhcnekfaaDoorShpC
import Derived.Test.YtdnaildhcnekfaaDoorAppR
namespace Go.Proofs.YtdnaildhcnekfaaDoor
open Go.RowKit
set_option linter.unusedVariables false
def rangesL (ss : List Int) : Nat → List (Int × Int)
  | 0 => []
  | k + 1 => rangesL ss k ++ [wR ss k, bR ss k]
theorem rangesL_length (ss : List Int) (k : Nat) : (rangesL ss k).length = 2 * k := by
  induction k with
  | zero => rfl
  | succ k ih => simp [rangesL, ih]; omega
theorem rangesL_at (ss : List Int) (k j : Nat) (h : j < k) : (rangesL ss k)[2 * j]? = some (wR ss j) ∧ (rangesL ss k)[2 * j + 1]? = some (bR ss j) := by
  induction k with
  | zero => omega
  | succ k ih =>
    have hl := rangesL_length ss k
    rcases Nat.lt_or_ge j k with hj | hj
    · have := ih hj
      unfold rangesL
      rw [List.getElem?_append_left (by omega), List.getElem?_append_left (by omega)]
      exact this
    · obtain rfl : j = k := by omega
      unfold rangesL
      rw [List.getElem?_append_right (by omega), List.getElem?_append_right (by omega), hl, Nat.sub_self, show 2 * j + 1 - 2 * j = 1 by omega]
      exact ⟨rfl, rfl⟩
set_option maxRecDepth 4000 in
set_option maxHeartbeats 1000000 in
theorem ranges_any (N b : Nat) (ss : List Int) (hr : RightH ss) (w : World) (h : ShapeAt N b w ss) :
    Calls Tryd.prog 31 #[.pointer (some ⟨b, 0, none⟩)] w fun e w' => ∃ v, e = .returned v ∧ RangesAt w'.heap.size w' v (rangesL ss (ss.length - 1)) ∧ Below w.heap.size w w' := by
  have h16 := hr.l16
  have h2 := hr.l2
  have HL := links_any N b ss (by omega) w h
  have H0 := Lib.hid h
  clear h
  go_enter Tryd.func31, Tryd.ntmps31
  go_wp2_with fail
  refine HL.mono ?_
  rintro e w1 ⟨rfl, rfl⟩
  clear HL
  obtain ⟨l, hl⟩ : ∃ l, l = ss.length - 1 := ⟨_, rfl⟩
  have HLL := Lib.hid hl
  rw [← hl]
  have hl15 : l ≤ 15 := by omega
  clear hl
  go_wp2_with fail
  go_loopw [3, 4, 7] (fun v _ i wr => ∃ k : Nat, k ≤ l ∧ i = .int .i64 k ∧ wr.ownsRow w.heap.size 35 2 v (2 * k) (rcells (rangesL ss k)) ∧ Below w.heap.size w wr) (fun _ _ i _ => l - (intOf i).toNat)
  case atStart => exact ⟨0, Nat.zero_le _, rfl, World.ownsRow_nil _ _ _ _, Below.refl _ _⟩
  case round =>
    obtain ⟨k, hk, rfl, hrow, hB⟩ := hrel
    by_cases hlt : k < l
    · have hdec : decide ((k : Int) < (l : Int)) = true := by simp; omega
      have wk : IntKind.i64.wrap ((k : Int) + 1) = k + 1 := IntWalk.i64_in _ (by omega)
      have hk1 : k + 1 < ss.length := by have := HLL.out; omega
      have HW := weights_in N b ss hr k hk1 wr (H0.out.later hB)
      have HBi := Lib.hid (fun W (hb : Below wr.heap.size wr W) => biases_in N b ss hr k hk1 W ((H0.out.later hB).later hb))
      have HROW := Lib.hid hrow
      have HB := Lib.hid hB
      clear hrow hB
      go_wp2_with fail
      refine HW.mono ?_
      rintro e w2 ⟨rfl, b2⟩
      have HB2 := HBi.out w2 b2
      have HROW2 := Lib.hid (own_below HROW.out b2)
      have B2 := Lib.hid (HB.out.trans (b2.mono HB.out.size))
      clear HW HBi HROW HB b2
      go_wp2_with fail
      refine HB2.mono ?_
      rintro e w3 ⟨rfl, b3⟩
      have hrow3 := own_below HROW2.out b3
      have B3 := Lib.hid (B2.out.trans (b3.mono B2.out.size))
      have HE : Hid (rangesL ss (k + 1) = rangesL ss k ++ [wR ss k, bR ss k]) := Lib.hid rfl
      obtain ⟨⟨p0, p1⟩, hp⟩ : ∃ p, p = wR ss k := ⟨_, rfl⟩
      obtain ⟨⟨p2, p3⟩, hp'⟩ : ∃ p, p = bR ss k := ⟨_, rfl⟩
      rw [← hp, ← hp'] at HE ⊢
      dsimp only
      clear HB2 HROW2 B2 b3 hp hp'
      have c4 := (Below.refl w3.heap.size w3).alloc (Nat.le_refl _) (.cells #[.int .i64 p0, .int .i64 p1, .int .i64 p2, .int .i64 p3] 35)
      have HROW4 := Lib.hid (own_below hrow3 c4)
      have B4 := Lib.hid (B3.out.trans (c4.mono B3.out.size))
      have HN := Lib.hid (cell_new w3 #[.int .i64 p0, .int .i64 p1, .int .i64 p2, .int .i64 p3] 35)
      clear hrow3 B3 c4
      go_wp2_with (at_builtin; refine append_list (base := w.heap.size) (n := 2 * k) (m := 2) (u := .slice (some ⟨w3.heap.size, 0, none⟩) 2 2) (ys := [.int .i64 p0, .int .i64 p1, .int .i64 p2, .int .i64 p3]) elemPR rfl _ _ rfl rfl rfl HROW4.out rfl (.inr ⟨_, _, rfl, fun j y hy => by rw [Go.WideShapes.add_plain, Nat.zero_add, HN.out]; simpa using hy⟩) (by simp [Value.oneCell']) (by unfold maxLen; omega) (by omega) B4.out.size ?_; intro v' w5 h5 g5; have O5 := Lib.hid h5; have G5 := Lib.hid g5; clear h5 g5)
      have B5 := Lib.hid (below_appended B4.out HROW4.out G5.out (Nat.le_refl _) B4.out.size)
      go_roundw
      case rel => exact ⟨k + 1, by omega, by go_num, by rw [HE.out, rcells_append]; exact O5.out, B5.out⟩
      case measure => simp [intOf]; omega
    · obtain rfl : k = l := by omega
      have hdec : decide ((k : Int) < (k : Int)) = false := by simp
      have HROW := Lib.hid hrow
      have HB := Lib.hid hB
      clear hrow hB
      go_wp2_with fail
      go_ret
      refine ⟨_, rfl, ?_, HB.out⟩
      have := SliceAt.of_owns HROW.out
      rw [HLL.out] at *
      unfold RangesAt
      rw [rangesL_length]
      exact this
end Go.Proofs.YtdnaildhcnekfaaDoor
