/- Layer 10: Parse. -/
import Derived.Test.YtcnabebcckbfkaaDoorDatK
import Derived.Test.YtcnabebcckbfkaaDoorShelf
import Derived.Deep.Cut
namespace Go.Proofs.YtcnabebcckbfkaaDoor
open Go.RowKit
set_option linter.unusedVariables false
/-- what Parse gives -/
def ParsedD (s : ByteArray) (q : Int) (w : World) (e : Ending) (w' : World) : Prop :=
  ∃ vx vy xs ys ok, e = .returned (.tuple #[.agg #[vx, vy], .bool ok]) ∧ IntsW .i64 w'.heap.size w' vx xs ∧ IntsW .i64 w'.heap.size w' vy ys ∧ Below w.heap.size w w' ∧ PExIs s q xs ys ok
theorem ReadAll.out {ws : List (List UInt8)} {q : Int} {w : World} {e : Ending} {w' : World} (h : ReadAll ws q w e w') : (∃ a c xs, e = .returned (.tuple #[.slice a xs.length c, .bool true]) ∧ Hid (xs.length = ws.length ∧ (∀ j, j < ws.length → ParseIs ⟨(ws[j]?.getD []).toArray⟩ q (xs[j]?.getD 0) true) ∧ w'.ownsRow w.heap.size 2 1 (.slice a xs.length c) xs.length (intsV xs) ∧ Below w.heap.size w w')) ∨ (e = .returned (.tuple #[.slice none 0 0, .bool false]) ∧ Hid ((∃ j x, j < ws.length ∧ ParseIs ⟨(ws[j]?.getD []).toArray⟩ q x false) ∧ Below w.heap.size w w')) := by
  rcases h with ⟨v, xs, rfl, h1, h2, h3, h4⟩ | ⟨j, x, h1, h2, rfl, h3⟩
  · obtain ⟨a, c, rfl⟩ := own_value h3
    exact .inl ⟨a, c, xs, rfl, Lib.hid ⟨h1, h2, h3, h4⟩⟩
  · exact .inr ⟨rfl, Lib.hid ⟨⟨j, x, h1, h2⟩, h3⟩⟩
theorem words_alloc (w : World) (W : List (List UInt8)) (e : TypeId) : WordsAt (w.alloc (.cells ((W.map (fun w => (⟨w.toArray⟩ : ByteArray))).map Value.string).toArray e)) w.heap.size 0 W := fun j hj => by
  rw [Nat.zero_add, cell_new]
  simp [List.getElem?_eq_getElem hj]
theorem word_cases {W : List (List UInt8)} {i : Int} (h : FirstW W [62] i) :
    (i < 1 ∧ ∀ A B : List (List UInt8), ([62] : List UInt8) ∉ A → A ≠ [] → B ≠ [] → W ≠ A ++ [62] :: B) ∨ (∃ k : Nat, i = k ∧ 1 ≤ k ∧ k + 1 = W.length ∧ ∀ A B : List (List UInt8), ([62] : List UInt8) ∉ A → A ≠ [] → B ≠ [] → W ≠ A ++ [62] :: B) ∨ (∃ A B, W = A ++ [62] :: B ∧ i = A.length ∧ 0 < A.length ∧ 0 < B.length ∧ ([62] : List UInt8) ∉ A) := by
  rcases h with ⟨k, rfl, hk, he, hn⟩ | ⟨rfl, hn⟩
  · have main : ∀ A B : List (List UInt8), W = A ++ [62] :: B → k ≤ A.length := fun A B e => by
      by_cases hle : k ≤ A.length
      · exact hle
      · exfalso
        apply hn A.length (by omega)
        rw [e, List.getElem?_append_right (Nat.le_refl _), Nat.sub_self]
        rfl
    obtain ⟨A, B, rfl, hA, hm⟩ := first_split hk he hn
    by_cases h0 : A.length = 0
    · refine .inl ⟨by omega, fun A' B' hn' hA' hB' e => ?_⟩
      have eA := List.length_eq_zero_iff.1 h0
      subst eA
      cases A' with
      | nil => exact hA' rfl
      | cons y r =>
        simp only [List.nil_append, List.cons_append, List.cons.injEq] at e
        exact hn' (by rw [← e.1]; exact List.mem_cons_self)
    · by_cases h1 : B.length = 0
      · refine .inr (.inl ⟨k, rfl, by omega, by rw [List.length_append, List.length_cons]; omega, fun A' B' hn' hA' hB' e => ?_⟩)
        have a1 := main A' B' e
        have a2 := congrArg List.length e
        rw [List.length_append, List.length_cons, List.length_append, List.length_cons] at a2
        have := List.length_pos_iff.2 hB'
        omega
      · exact .inr (.inr ⟨A, B, rfl, by omega, by omega, by omega, hm⟩)
  · refine .inl ⟨by omega, fun A B _ _ _ e => ?_⟩
    apply hn A.length (by rw [e, List.length_append, List.length_cons]; omega)
    rw [e, List.getElem?_append_right (Nat.le_refl _), Nat.sub_self]
    rfl
theorem row_set {w : World} {base size n b o : Nat} {e : TypeId} {v : Value} {xs : List Value} (h : w.ownsRow base e size v n xs) (hb : b < base) (x : Value) : (w.setCell ⟨b, o, none⟩ x).ownsRow base e size v n xs :=
  ownsRow_setCell_other h (fun e => by have := (h.lt b e).1; omega) x
/-- the result's two cells are written -/
theorem result_out {w w1 wr : World} {N : Nat} (hN : w.heap.size = N) (B1 : Below N w w1) (T : Two w1 (N + 1) 24 (.slice none 0 0) (.slice none 0 0)) (hr : Below w1.heap.size w1 wr) (v0 v1 : Value) : ∃ W5, W5 = (wr.setCell ⟨N + 1, 0, none⟩ v0).setCell ⟨N + 1, 1, none⟩ v1 ∧ W5.cell? ⟨N + 1, 0, none⟩ = some v0 ∧ W5.cell? ⟨N + 1, 1, none⟩ = some v1 ∧ Below N w W5 ∧ (∀ base n v xs, N + 1 < base → wr.ownsRow base 2 1 v n xs → W5.ownsRow base 2 1 v n xs) := by
  have T2 := (T.later hr).store v0 v1
  have hlt := T.lt
  refine ⟨_, rfl, T2.cells.1, T2.cells.2, below_set (below_set (B1.trans (hr.mono (by omega))) (by omega)) (by omega), fun base n v xs hb ho => row_set (row_set ho hb _) hb _⟩
set_option maxHeartbeats 4000000 in
theorem parseD_any (x : List UInt8) (ws : List (List UInt8)) (hn : ∀ w ∈ x :: ws, (32 : UInt8) ∉ w) (hl : ws.length ≤ 90000) (hs : (x ++ Lib.joinTail [32] ws).length < 4294967281) (q : Int) (w : World) (ht : Pow10 w) (m : Int) (hm : w.cell? ⟨1, 0, none⟩ = some (.int .i64 m)) :
    Calls Tryd.prog 13 #[.string ⟨(x ++ Lib.joinTail [32] ws).toArray⟩, .int .i64 q] w (ParsedD ⟨(x ++ Lib.joinTail [32] ws).toArray⟩ q w) := by
  obtain ⟨c1, c2⟩ := split_words ws x hn
  have hsz : (⟨(x ++ Lib.joinTail [32] ws).toArray⟩ : ByteArray).size = (x ++ Lib.joinTail [32] ws).length := by simp [ByteArray.size]
  have SP := fun W hW => Tryd.strings_Split ⟨(x ++ Lib.joinTail [32] ws).toArray⟩ ⟨#[32]⟩ m W (by rw [hsz]; exact hs) hW (by decide)
  rw [c1, c2] at SP
  have SPI := Lib.hid SP
  have NF : ∀ h : _, PExIs ⟨(x ++ Lib.joinTail [32] ws).toArray⟩ q [] [] false := fun h => no_first hn q h
  have NL : ∀ (A B : List (List UInt8)) (z : Int) (j : Nat), x :: ws = A ++ [62] :: B → ([62] : List UInt8) ∉ A → j < A.length → ParseIs ⟨(A[j]?.getD []).toArray⟩ q z false → PExIs ⟨(x ++ Lib.joinTail [32] ws).toArray⟩ q [] [] false := fun A B z j he hA hj hp => no_left hn he hA hj hp
  have NR : ∀ (A B : List (List UInt8)) (z : Int) (j : Nat), x :: ws = A ++ [62] :: B → ([62] : List UInt8) ∉ A → j < B.length → ParseIs ⟨(B[j]?.getD []).toArray⟩ q z false → PExIs ⟨(x ++ Lib.joinTail [32] ws).toArray⟩ q [] [] false := fun A B z j he hA hj hp => no_right hn he hA hj hp
  have GP : ∀ (A B : List (List UInt8)) (xs ys : List Int), x :: ws = A ++ [62] :: B → 0 < A.length → 0 < B.length → xs.length = A.length → ys.length = B.length → (∀ j, j < A.length → ParseIs ⟨(A[j]?.getD []).toArray⟩ q (xs[j]?.getD 0) true) → (∀ j, j < B.length → ParseIs ⟨(B[j]?.getD []).toArray⟩ q (ys[j]?.getD 0) true) → PExIs ⟨(x ++ Lib.joinTail [32] ws).toArray⟩ q xs ys true := fun A B xs ys he hA hB hlx hly hx hy => good_parse he hA hB hlx hly hx hy
  replace NF := Lib.hid NF
  replace NL := Lib.hid NL
  replace NR := Lib.hid NR
  replace GP := Lib.hid GP
  have bA := (Below.refl w.heap.size w).alloc (Nat.le_refl _) (.cells #[.int .i64 q] 3)
  have T := Two.new (w.alloc (.cells #[.int .i64 q] 3)) 24 (.slice none 0 0) (.slice none 0 0)
  have bB := bA.alloc bA.size (.cells #[.slice none 0 0, .slice none 0 0] 24)
  have e0 := cell_new w #[.int .i64 q] 3 0
  simp only [List.getElem?_toArray, List.getElem?_cons_zero] at e0
  have bC := (Below.refl (w.alloc (.cells #[.int .i64 q] 3)).heap.size (w.alloc (.cells #[.int .i64 q] 3))).alloc (Nat.le_refl _) (.cells #[.slice none 0 0, .slice none 0 0] 24)
  have hE := cell_step bC e0
  have hm1 := cell_step bB hm
  have ht1 := Lib.hid (ht.later bB)
  have hsz1 : (w.alloc (.cells #[.int .i64 q] 3)).heap.size = w.heap.size + 1 := by simp
  rw [hsz1] at T
  clear c1 c2 hsz SP hn hs ht hm e0 bA bC
  go_enter Tryd.func13, Tryd.ntmps13
  go_upto_region 1 with fail
  generalize (w.alloc (.cells #[.int .i64 q] 3)).alloc (.cells #[.slice none 0 0, .slice none 0 0] 24) = w1 at *
  generalize hS : (⟨(x ++ Lib.joinTail [32] ws).toArray⟩ : ByteArray) = S at *
  generalize hN : w.heap.size = N at *
  have hNw : N + 2 ≤ w1.heap.size := by have := T.lt; omega
  go_wp2_with fail
  refine ((SPI.out) w1 hm1).mono ?_
  rintro e w2 ⟨rfl, rfl⟩
  have HA := Lib.hid (words_alloc w1 (x :: ws) 9)
  have b2 := (Below.refl w1.heap.size w1).alloc (Nat.le_refl _) (.cells (((x :: ws).map (fun w => (⟨w.toArray⟩ : ByteArray))).map Value.string).toArray 9)
  have hW : ws.length + 1 = (x :: ws).length := rfl
  generalize w1.alloc (.cells (((x :: ws).map (fun w => (⟨w.toArray⟩ : ByteArray))).map Value.string).toArray 9) = w2 at *
  rw [hW]
  have HI := Lib.hid (indexW_any w1.heap.size 0 (x :: ws).length (x :: ws) [62] (by rw [← hW]; omega) w2 HA.out)
  have hl1 : (x :: ws).length ≤ 90001 := by rw [← hW]; omega
  have h1W : 1 ≤ (x :: ws).length := by rw [← hW]; omega
  clear hS hW SPI hl
  generalize x :: ws = W at *
  go_wp2_with fail
  refine HI.out.mono ?_
  rintro e w3 ⟨⟨i, rfl, hi⟩, rfl⟩
  have hwc := word_cases hi
  clear HI hi
  rcases hwc with ⟨hi1, hno⟩ | ⟨k, rfl, hk1, hk, hno⟩ | ⟨A, B, rfl, rfl, hA, hB, hm62⟩
  · have PX := Lib.hid (NF.out hno)
    obtain ⟨W5, hW5, r0, r1, B5, _⟩ := result_out hN bB T b2 (.slice none 0 0) (.slice none 0 0)
    have B5' := Lib.hid B5
    have T2 := T.later b2
    obtain ⟨t0, t1⟩ := T2.cells
    have f0 := T2.frozen 0
    have f1 := T2.frozen 1
    have g1 : decide (i < 1) = true := by simpa using hi1
    have HW5 := Lib.hid hW5
    clear NF NL NR GP hno hE hm1 HA b2 T T2 bB ht1 hW5
    go_wp2_with fail
    rw [← HW5.out]
    refine bodyPost_ret (v := .tuple #[.agg #[.slice none 0 0, .slice none 0 0], .bool false]) ?_ rfl ⟨_, _, [], [], false, rfl, .inr ⟨rfl, .inl ⟨rfl, rfl⟩⟩, .inr ⟨rfl, .inl ⟨rfl, rfl⟩⟩, by rw [hN]; exact B5'.out, PX.out⟩
    clear PX B5'
    simp [results, Tryd.results13, r0, r1, go_sem]
  · have PX := Lib.hid (NF.out hno)
    obtain ⟨W5, hW5, r0, r1, B5, _⟩ := result_out hN bB T b2 (.slice none 0 0) (.slice none 0 0)
    have B5' := Lib.hid B5
    have T2 := T.later b2
    obtain ⟨t0, t1⟩ := T2.cells
    have f0 := T2.frozen 0
    have f1 := T2.frozen 1
    have g1 : decide ((k : Int) < 1) = false := by simp; omega
    have g3 : (k : Int) = (W.length : Int) - 1 := by omega
    have HW5 := Lib.hid hW5
    clear NF NL NR GP hno hE hm1 HA b2 T T2 bB ht1 hW5
    generalize hwl : W.length = wl at *
    have g4 : ((k : Int) == (wl : Int) - 1) = true := by rw [← g3]; simp
    clear g3
    go_wp2_with fail
    rw [← HW5.out]
    refine bodyPost_ret (v := .tuple #[.agg #[.slice none 0 0, .slice none 0 0], .bool false]) ?_ rfl ⟨_, _, [], [], false, rfl, .inr ⟨rfl, .inl ⟨rfl, rfl⟩⟩, .inr ⟨rfl, .inl ⟨rfl, rfl⟩⟩, by rw [hN]; exact B5'.out, PX.out⟩
    clear PX B5'
    simp [results, Tryd.results13, r0, r1, go_sem]
  · have E1 := Lib.hid (HA.out.left)
    have e2 := HA.out.right
    rw [Nat.zero_add] at e2
    have E2 := Lib.hid e2
    have g1 : decide ((A.length : Int) < 1) = false := by simp; omega
    have NL1 := Lib.hid (fun z j hj hp => NL.out A B z j rfl hm62 hj hp)
    have NR1 := Lib.hid (fun z j hj hp => NR.out A B z j rfl hm62 hj hp)
    have GP1 := Lib.hid (fun xs ys => GP.out A B xs ys rfl hA hB)
    clear NL NR GP NF HA hm62 e2
    have hwl : (A ++ [62] :: B).length = A.length + B.length + 1 := by rw [List.length_append, List.length_cons]; omega
    rw [hwl] at hl1
    rw [hwl]
    generalize hwl2 : A.length + B.length + 1 = wl at *
    have hal : A.length < wl := by omega
    have hal2 : A.length + 1 ≤ wl := by omega
    have hwr : wrap64 ((wl : Int) - 1) = (wl : Int) - 1 := by unfold wrap64; omega
    have g2 : ((A.length : Int) == wrap64 ((wl : Int) - 1)) = false := by rw [hwr]; simp; omega
    have g3 : ¬ (A.length : Int) = wrap64 ((wl : Int) - 1) := by rw [hwr]; omega
    clear hwr
    have hb : wl - (A.length + 1) = B.length := by omega
    have T2 := Lib.hid (T.later b2)
    have hNw2 : w1.heap.size ≤ w2.heap.size := b2.size
    have Q1 := Lib.hid (eachR_any N w1.heap.size 0 wl q A (by omega) w2 (ht1.out.later b2) (cell_step b2 hE) E1.out)
    go_wp2_with fail
    refine Q1.out.mono ?_
    intro e w3 hq1
    rcases hq1.out with ⟨a1, k1, xs, rfl, K1⟩ | ⟨rfl, K1⟩
    · obtain ⟨l1, p1, o1, b3⟩ := K1.out
      have B3 := Lib.hid b3
      have O1 := Lib.hid o1
      have P1 := Lib.hid p1
      have L1 := Lib.hid l1
      have Q2 := Lib.hid (eachR_any N w1.heap.size (A.length + 1) B.length q B (by omega) w3 ((ht1.out.later b2).later b3) (cell_step b3 (cell_step b2 hE)) (E2.out.later b3))
      have hNw3 : w2.heap.size ≤ w3.heap.size := b3.size
      clear hq1 K1 b3 NL1 Q1 o1 p1 l1
      go_wp2_with fail
      refine Q2.out.mono ?_
      intro e w4 hq2
      rcases hq2.out with ⟨a2, k2, ys, rfl, K2⟩ | ⟨rfl, K2⟩
      · obtain ⟨l2, p2, o2, b4⟩ := K2.out
        have PX := Lib.hid (GP1.out xs ys L1.out l2 P1.out p2)
        have O1' := Lib.hid (own_below O1.out b4)
        have O2 := Lib.hid o2
        have BB := Lib.hid (b2.trans ((B3.out.trans (b4.mono hNw3)).mono hNw2))
        clear K2 b4 hq2 GP1 NR1 L1 P1 l2 p2 O1 o2
        obtain ⟨W5, hW5, r0, r1, B5, own5⟩ := result_out hN bB T BB.out (.slice a1 xs.length k1) (.slice a2 ys.length k2)
        have V1 := Lib.hid (own5 _ _ _ _ (by omega) O1'.out)
        have V2 := Lib.hid (own5 _ _ _ _ (by omega) O2.out)
        have B5' := Lib.hid B5
        have TT := T.later BB.out
        obtain ⟨t0, t1⟩ := TT.cells
        have f0 := TT.frozen 0
        have f1 := TT.frozen 1
        have HW5 := Lib.hid hW5
        clear TT hW5 own5
        go_wp2_with fail
        rw [← HW5.out]
        refine bodyPost_ret (v := .tuple #[.agg #[.slice a1 xs.length k1, .slice a2 ys.length k2], .bool true]) ?_ rfl ⟨_, _, xs, ys, true, rfl, .inr (ints_own V1.out), .inr (ints_own V2.out), by rw [hN]; exact B5'.out, PX.out⟩
        clear PX B5' V1 V2
        simp [results, Tryd.results13, r0, r1, go_sem]
      · obtain ⟨⟨j, z, hj, hp⟩, b4⟩ := K2.out
        have PX := Lib.hid (NR1.out z j hj hp)
        have BB := Lib.hid (b2.trans ((B3.out.trans (b4.mono hNw3)).mono hNw2))
        clear K2 b4 hj hp hq2 GP1 NR1 P1 L1 O1
        obtain ⟨W5, hW5, r0, r1, B5, _⟩ := result_out hN bB T BB.out (.slice none 0 0) (.slice none 0 0)
        have B5' := Lib.hid B5
        have TT := T.later BB.out
        obtain ⟨t0, t1⟩ := TT.cells
        have f0 := TT.frozen 0
        have f1 := TT.frozen 1
        have HW5 := Lib.hid hW5
        clear TT hW5
        go_wp2_with fail
        rw [← HW5.out]
        refine bodyPost_ret (v := .tuple #[.agg #[.slice none 0 0, .slice none 0 0], .bool false]) ?_ rfl ⟨_, _, [], [], false, rfl, .inr ⟨rfl, .inl ⟨rfl, rfl⟩⟩, .inr ⟨rfl, .inl ⟨rfl, rfl⟩⟩, by rw [hN]; exact B5'.out, PX.out⟩
        clear PX B5'
        simp [results, Tryd.results13, r0, r1, go_sem]
    · obtain ⟨⟨j, z, hj, hp⟩, b3⟩ := K1.out
      have PX := Lib.hid (NL1.out z j hj hp)
      have B3 := Lib.hid b3
      have Q2 := Lib.hid (eachR_any N w1.heap.size (A.length + 1) B.length q B (by omega) w3 ((ht1.out.later b2).later b3) (cell_step b3 (cell_step b2 hE)) (E2.out.later b3))
      have hNw3 : w2.heap.size ≤ w3.heap.size := b3.size
      clear hq1 K1 b3 hp hj NL1 NR1 GP1 Q1
      go_wp2_with fail
      refine Q2.out.mono ?_
      intro e w4 hq2
      have hb4 : Below w3.heap.size w3 w4 := by
        rcases hq2.out with ⟨a2, k2, ys, _, K2⟩ | ⟨_, K2⟩
        · exact K2.out.2.2.2
        · exact K2.out.2
      have BB := Lib.hid (b2.trans ((B3.out.trans (hb4.mono hNw3)).mono hNw2))
      rcases hq2.out with ⟨a2, k2, ys, rfl, K2⟩ | ⟨rfl, K2⟩
      · clear K2 hb4 hq2
        obtain ⟨W5, hW5, r0, r1, B5, _⟩ := result_out hN bB T BB.out (.slice none 0 0) (.slice none 0 0)
        have B5' := Lib.hid B5
        have TT := T.later BB.out
        obtain ⟨t0, t1⟩ := TT.cells
        have f0 := TT.frozen 0
        have f1 := TT.frozen 1
        have HW5 := Lib.hid hW5
        clear TT hW5
        go_wp2_with fail
        rw [← HW5.out]
        refine bodyPost_ret (v := .tuple #[.agg #[.slice none 0 0, .slice none 0 0], .bool false]) ?_ rfl ⟨_, _, [], [], false, rfl, .inr ⟨rfl, .inl ⟨rfl, rfl⟩⟩, .inr ⟨rfl, .inl ⟨rfl, rfl⟩⟩, by rw [hN]; exact B5'.out, PX.out⟩
        clear PX B5'
        simp [results, Tryd.results13, r0, r1, go_sem]
      · clear K2 hb4 hq2
        obtain ⟨W5, hW5, r0, r1, B5, _⟩ := result_out hN bB T BB.out (.slice none 0 0) (.slice none 0 0)
        have B5' := Lib.hid B5
        have TT := T.later BB.out
        obtain ⟨t0, t1⟩ := TT.cells
        have f0 := TT.frozen 0
        have f1 := TT.frozen 1
        have HW5 := Lib.hid hW5
        clear TT hW5
        go_wp2_with fail
        rw [← HW5.out]
        refine bodyPost_ret (v := .tuple #[.agg #[.slice none 0 0, .slice none 0 0], .bool false]) ?_ rfl ⟨_, _, [], [], false, rfl, .inr ⟨rfl, .inl ⟨rfl, rfl⟩⟩, .inr ⟨rfl, .inl ⟨rfl, rfl⟩⟩, by rw [hN]; exact B5'.out, PX.out⟩
        clear PX B5'
        simp [results, Tryd.results13, r0, r1, go_sem]
end Go.Proofs.YtcnabebcckbfkaaDoor
