/- Layer 16: Parse leads back from the text of a mark; the reference's text. -/
import Derived.Test.YtplobfiopbncpaaDoorMrkQ
namespace Go.Proofs.YtplobfiopbncpaaDoor
open Go.RowKit
set_option linter.unusedVariables false
set_option maxRecDepth 8000 in
set_option maxHeartbeats 4000000 in
theorem parse_core (x y : Int) (A B L : List UInt8) (sg : UInt8) (n : Nat) (hx : x.natAbs ≤ 1125899906842624) (hn : n ≤ 1125899906842624) (hA : A.length ≤ 21) (hB : B.length ≤ 21)
    (hsg : y < 0 ∧ sg = 45 ∧ y = -(n : Int) ∨ ¬ y < 0 ∧ sg = 43 ∧ y = (n : Int)) (hlen : L.length = A.length + B.length + 2)
    (hex1 : (⟨L.toArray⟩ : ByteArray).extract 0 A.length = ⟨A.toArray⟩) (hex2 : (⟨L.toArray⟩ : ByteArray).extract (A.length + 1) (A.length + B.length + 1) = ⟨B.toArray⟩) (hix : L[A.length]? = some sg)
    (HLA : Hid (∀ W, Calls Tryd.prog 28 #[.string ⟨L.toArray⟩, .string ⟨#[43, 45]⟩] W fun e w' => e = .returned (.int .i64 A.length) ∧ Below W.heap.size W w'))
    (HSX : Hid (∀ W, Calls Tryd.prog 29 #[.string ⟨L.toArray⟩, .string ⟨#[105]⟩] W fun e w' => e = .returned (.bool true) ∧ W = w'))
    (w : World)
    (HN : Hid (∀ W, Below w.heap.size w W → Calls Tryd.prog 30 #[.string ⟨A.toArray⟩] W fun e w' => e = .returned (.tuple #[.int .i64 x, .bool true]) ∧ Below W.heap.size W w'))
    (HK : Hid (∀ W, Below w.heap.size w W → Calls Tryd.prog 31 #[.string ⟨B.toArray⟩, .int .i64 1125899906842624] W fun e w' => e = .returned (.tuple #[.int .i64 n, .bool true]) ∧ Below W.heap.size W w'))
    (HT : Hid (∀ W, Below w.heap.size w W → Calls Tryd.prog 22 #[.complex .f64 (floatOfInt .f64 x) (floatOfInt .f64 y)] W fun e w' => e = .returned (.string ⟨L.toArray⟩) ∧ Below W.heap.size W w')) :
    Calls Tryd.prog 23 #[.string ⟨L.toArray⟩] w fun e w' => e = .returned (.tuple #[.complex .f64 (floatOfInt .f64 x) (floatOfInt .f64 y), .bool true]) ∧ Below w.heap.size w w' := by
  have hi := idx_at L A.length sg hix
  have p1 : ¬ (A.length : Int) < 0 := by omega
  have p2 : (A.length : Int) ≤ 21 := by omega
  have p3 : (B.length : Int) ≤ 21 := by omega
  have p8 : A.length ≤ L.length := by omega
  have p9 : A.length + 1 ≤ A.length + B.length + 1 := by omega
  have p10 : A.length + B.length + 1 ≤ L.length := by omega
  have x1 : x ≤ 1125899906842624 := by omega
  have x2 : -1125899906842624 ≤ x := by omega
  have n1 : (n : Int) ≤ 1125899906842624 := by omega
  have g1 : decide (1125899906842624 < x) = false := by simp; omega
  have g2 : decide (x < -1125899906842624) = false := by simp; omega
  have hsl : ∀ W, (Instr.slice 9 (.string ⟨L.toArray⟩) (some (.int .i64 ((A.length : Int) + 1))) (some (.int .i64 ((A.length : Int) + (B.length : Int) + 2 - 1))) none).run Tryd.prog W = .ok (.string ⟨B.toArray⟩) W := fun W => by
    have hsz : (⟨L.toArray⟩ : ByteArray).size = L.length := by simp [ByteArray.size]
    rw [run_slice_string (P := Tryd.prog) (w := W) 9 _ .i64 .i64 _ _ Tryd.underlying9 (by omega) (by omega) (by rw [hsz]; omega)]
    rw [show ((A.length : Int) + 1).toNat = A.length + 1 by omega, show ((A.length : Int) + (B.length : Int) + 2 - 1).toNat = A.length + B.length + 1 by omega, hex2]
  clear hix hex2
  generalize A.length = al at *
  generalize B.length = bl at *
  rcases hsg with ⟨hy, rfl, rfl⟩ | ⟨hy, rfl, rfl⟩
  · go_enter Tryd.func23, Tryd.ntmps23
    go_wp2_with fail
    refine (HLA.out _).mono ?_
    rintro e w1 ⟨rfl, b1⟩
    have B1 := Lib.hid b1
    clear b1 HLA
    go_wp2_with fail
    refine (HSX.out _).mono ?_
    rintro e w' ⟨rfl, rfl⟩
    go_wp2_with fail
    refine (HN.out _ B1.out).mono ?_
    rintro e w2 ⟨rfl, b2⟩
    have B2 := Lib.hid (B1.out.trans (b2.mono B1.out.size))
    clear b2 HN B1
    go_wp2_with fail
    refine (HK.out _ B2.out).mono ?_
    rintro e w3 ⟨rfl, b3⟩
    have B3 := Lib.hid (B2.out.trans (b3.mono B2.out.size))
    clear b3 HK B2
    go_wp2_with fail
    refine (HT.out _ B3.out).mono ?_
    rintro e w4 ⟨rfl, b4⟩
    have B4 := B3.out.trans (b4.mono B3.out.size)
    clear b4 HT B3
    go_wp2_with fail
    go_ret2
    exact ⟨by first | rfl | (simp; done), B4⟩
  · go_enter Tryd.func23, Tryd.ntmps23
    go_wp2_with fail
    refine (HLA.out _).mono ?_
    rintro e w1 ⟨rfl, b1⟩
    have B1 := Lib.hid b1
    clear b1 HLA
    go_wp2_with fail
    refine (HSX.out _).mono ?_
    rintro e w' ⟨rfl, rfl⟩
    go_wp2_with fail
    refine (HN.out _ B1.out).mono ?_
    rintro e w2 ⟨rfl, b2⟩
    have B2 := Lib.hid (B1.out.trans (b2.mono B1.out.size))
    clear b2 HN B1
    go_wp2_with fail
    refine (HK.out _ B2.out).mono ?_
    rintro e w3 ⟨rfl, b3⟩
    have B3 := Lib.hid (B2.out.trans (b3.mono B2.out.size))
    clear b3 HK B2
    go_wp2_with fail
    refine (HT.out _ B3.out).mono ?_
    rintro e w4 ⟨rfl, b4⟩
    have B4 := B3.out.trans (b4.mono B3.out.size)
    clear b4 HT B3
    go_wp2_with fail
    go_ret2
    exact ⟨by first | rfl | (simp; done), B4⟩
theorem parse_mark (x y : Int) (hx : x.natAbs ≤ 1125899906842624) (hy : y.natAbs ≤ 1125899906842624) (w : World) (ht : Pow10 w) :
    Calls Tryd.prog 23 #[.string ⟨(markL x y).toArray⟩] w fun e w' => e = .returned (.tuple #[.complex .f64 (floatOfInt .f64 x) (floatOfInt .f64 y), .bool true]) ∧ Below w.heap.size w w' := by
  have hA := textB0_len x (by omega)
  have hB := textB0_len (y.natAbs : Int) (by omega)
  rw [markL_form]
  refine parse_core x y (textB x 0) (textB (y.natAbs : Int) 0) _ (sgB y) y.natAbs hx hy hA hB ?_ (by simp; omega) ?_ ?_ ?_ ?_ ?_ w ?_ ?_ ?_
  · unfold sgB
    by_cases h : y < 0
    · exact .inl ⟨h, if_pos h, by omega⟩
    · exact .inr ⟨h, if_neg h, by omega⟩
  · rw [extract_list]; simp
  · rw [extract_list, show (textB x 0).length + (textB (y.natAbs : Int) 0).length + 1 - ((textB x 0).length + 1) = (textB (y.natAbs : Int) 0).length by omega]
    rw [show textB x 0 ++ sgB y :: (textB (y.natAbs : Int) 0 ++ [105]) = (textB x 0 ++ [sgB y]) ++ (textB (y.natAbs : Int) 0 ++ [105]) by simp]
    rw [List.drop_left' (by simp), List.take_left' rfl]
  · rw [List.getElem?_append_right (Nat.le_refl _), Nat.sub_self]; rfl
  · exact Lib.hid (fun W => lastAny_any _ _ (by simp; omega) (by simp; omega) (fun j hj => mark_ascii x y _ (by rw [List.getElem?_eq_getElem hj]; exact List.getElem_mem hj)) (mark_last x y) W)
  · have h := fun W => hasI_any (textB x 0 ++ sgB y :: textB (y.natAbs : Int) 0) (by simp; omega) W
    rw [show textB x 0 ++ sgB y :: textB (y.natAbs : Int) 0 ++ [105] = textB x 0 ++ sgB y :: (textB (y.natAbs : Int) 0 ++ [105]) by simp] at h
    exact Lib.hid h
  · refine Lib.hid (fun W hW => (number_any _ W (ht.later hW)).mono ?_)
    rintro e w' ⟨⟨X, ok, rfl, hp⟩, b⟩
    obtain ⟨rfl, rfl⟩ := parseIs_text (by omega) (by omega) hp
    exact ⟨rfl, b⟩
  · refine Lib.hid (fun W hW => (natural_any _ 1125899906842624 W (ht.later hW)).mono ?_)
    rintro e w' ⟨⟨X, ok, rfl, hp⟩, b⟩
    obtain ⟨rfl, rfl⟩ := parseIs_text (by omega) (by omega) hp
    refine ⟨?_, b⟩
    rw [show natR (y.natAbs : Int) true 1125899906842624 = ((y.natAbs : Int), true) from if_pos ⟨rfl, by omega, by omega⟩]
  · refine Lib.hid (fun W hW => ?_)
    have h := mtext_any _ _ x y (ofInt_isF x (by omega)) (ofInt_isF y (by omega)) hx hy W (ht.later hW)
    rw [markL_form] at h
    exact h
end Go.Proofs.YtplobfiopbncpaaDoor
