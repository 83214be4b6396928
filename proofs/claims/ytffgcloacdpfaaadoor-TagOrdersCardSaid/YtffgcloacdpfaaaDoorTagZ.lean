/- Layer 17: Compare. -/
import Derived.Test.YtffgcloacdpfaaaDoorTagO
namespace Go.Proofs.YtffgcloacdpfaaaDoor
open Go.RowKit
set_option linter.unusedVariables false
def Row5 (W : World) (B : Nat) (xs : List Int) : Prop := ∀ j, j < 5 → W.cell? ⟨B, j, none⟩ = some (.int .i64 (xs[j]?.getD 0))
theorem Row5.step {A B : World} {b : Nat} {xs : List Int} (h : Row5 A b xs) (k : Below A.heap.size A B) : Row5 B b xs := fun j hj => cell_step k (h j hj)
theorem Row5.other {A B : World} {b g : Nat} {xs : List Int} (h : Row5 A b xs) (k : A.grownBy B (some g)) (hne : b ≠ g) : Row5 B b xs := fun j hj => (grown_cell k (World.block_lt_of_cell? _ _ (h j hj)) hne).trans (h j hj)
theorem Row5.zero (w : World) (e : TypeId) : Row5 (w.alloc (.cells #[.int .i64 0, .int .i64 0, .int .i64 0, .int .i64 0, .int .i64 0] e)) w.heap.size [0, 0, 0, 0, 0] := fun j hj => by
  rw [cells_five w _ _ _ _ _ e j hj]
  match j, hj with
  | 0, _ => rfl
  | 1, _ => rfl
  | 2, _ => rfl
  | 3, _ => rfl
  | 4, _ => rfl
theorem row5_is {W : World} {B : Nat} {a b c d e_ : Int} (h0 : W.cell? ⟨B, 0, none⟩ = some (.int .i64 a)) (h1 : W.cell? ⟨B, 1, none⟩ = some (.int .i64 b)) (h2 : W.cell? ⟨B, 2, none⟩ = some (.int .i64 c)) (h3 : W.cell? ⟨B, 3, none⟩ = some (.int .i64 d)) (h4 : W.cell? ⟨B, 4, none⟩ = some (.int .i64 e_)) : Row5 W B [a, b, c, d, e_] := fun j hj => by
  match j, hj with
  | 0, _ => exact h0
  | 1, _ => exact h1
  | 2, _ => exact h2
  | 3, _ => exact h3
  | 4, _ => exact h4
def set5 (W : World) (B : Nat) (a b c d e_ : Int) : World := ((((W.setCell ⟨B, 0, none⟩ (.int .i64 a)).setCell ⟨B, 1, none⟩ (.int .i64 b)).setCell ⟨B, 2, none⟩ (.int .i64 c)).setCell ⟨B, 3, none⟩ (.int .i64 d)).setCell ⟨B, 4, none⟩ (.int .i64 e_)
theorem set5_row {W : World} {B : Nat} {xs : List Int} (a b c d e_ : Int) (h : Row5 W B xs) : Row5 (set5 W B a b c d e_) B [a, b, c, d, e_] := by
  have s := stored5 (.int .i64 a) (.int .i64 b) (.int .i64 c) (.int .i64 d) (.int .i64 e_) (h 0 (by omega)) (h 1 (by omega)) (h 2 (by omega)) (h 3 (by omega)) (h 4 (by omega))
  exact row5_is s.1 s.2.1 s.2.2.1 s.2.2.2.1 s.2.2.2.2.1
theorem set5_grown (W : World) (B : Nat) (a b c d e_ : Int) : W.grownBy (set5 W B a b c d e_) (some B) :=
  grown_trans (grown_trans (grown_trans (grown_trans (grown_set W B 0 _) (grown_set _ B 1 _)) (grown_set _ B 2 _)) (grown_set _ B 3 _)) (grown_set _ B 4 _)
theorem set5_below {W0 W : World} {N B : Nat} {a b c d e_ : Int} (h : Below N W0 W) (hN : N ≤ B) : Below N W0 (set5 W B a b c d e_) :=
  below_set (below_set (below_set (below_set (below_set h hN) hN) hN) hN) hN
theorem equalIn_wordsI {P : Program} (w : World) (d : Nat) (t e : TypeId) (n : Nat) (ht : P.underlying t = some (.array n e)) (he : P.underlying e = some (.int .i64)) (hsz : ∀ w, (sizeOf e).run P w = .ok 1 w)
    (xs ys : List Int) (hx : xs.length = n) (hy : ys.length = n) :
    (Op.equalIn (d + 2) t (.agg (xs.map (Value.int .i64)).toArray) (.agg (ys.map (Value.int .i64)).toArray)).run P w = .ok (xs == ys) w := by
  rw [← all_range_eqI xs ys (hx.trans hy.symm), hx, List.range_eq_range', Op.equalIn]
  simp only [Sem.run_bind, run_underlying ht, Result.andThen_ok, hsz, Std.Legacy.Range.forIn_eq_forIn_range', Std.Legacy.Range.size, Nat.sub_zero, Nat.add_sub_cancel, Nat.div_one]
  have hl : ∀ i ∈ List.range' 0 n 1, i < n := fun i hi => by simpa using (List.mem_range'_1.1 hi).2
  generalize List.range' 0 n 1 = l at hl ⊢
  induction l with
  | nil => simp
  | cons i l ih =>
    have hi : i < n := hl i (by simp)
    have px : (part e (xs.map (Value.int .i64)).toArray (i * 1)).run P w = .ok (.int .i64 (xs.getD i 0)) w := by
      simp [part, isAgg, run_underlying he, List.getD, List.getElem?_eq_getElem (show i < xs.length by omega)]
    have py : (part e (ys.map (Value.int .i64)).toArray (i * 1)).run P w = .ok (.int .i64 (ys.getD i 0)) w := by
      simp [part, isAgg, run_underlying he, List.getD, List.getElem?_eq_getElem (show i < ys.length by omega)]
    have pe : (Op.equalIn (d + 1) e (.int .i64 (xs.getD i 0)) (.int .i64 (ys.getD i 0))).run P w = .ok (xs.getD i 0 == ys.getD i 0) w := run_equalIn_int w d e .i64 .i64 _ _ he
    simp only [List.forIn_cons, Sem.run_bind, px, py, pe, Result.andThen_ok, List.all_cons]
    cases hb : (xs.getD i 0 == ys.getD i 0)
    · simp
    · simp only [Bool.not_true, Bool.false_eq_true, if_false, Sem.run_pure, Result.andThen_ok, Bool.true_and]
      exact ih fun j hj => hl j (by simp [hj])
theorem equalIn_five (a b c d e_ p q r s t : Int) (w : World) : (Op.equalIn 10000 44 (.agg #[.int .i64 a, .int .i64 b, .int .i64 c, .int .i64 d, .int .i64 e_]) (.agg #[.int .i64 p, .int .i64 q, .int .i64 r, .int .i64 s, .int .i64 t])).run Tryd.prog w = .ok (tagXs a b c d e_ == tagXs p q r s t) w :=
  equalIn_wordsI (P := Tryd.prog) w 9998 44 3 5 Tryd.underlying44 Tryd.underlying3 (by intro W; kernel_rfl) [a, b, c, d, e_] [p, q, r, s, t] rfl rfl
theorem eql_five (a b c d e_ p q r s t : Int) (w : World) : (binOp .eql 44 (.agg #[.int .i64 a, .int .i64 b, .int .i64 c, .int .i64 d, .int .i64 e_]) (.agg #[.int .i64 p, .int .i64 q, .int .i64 r, .int .i64 s, .int .i64 t])).run Tryd.prog w = .ok (.bool (tagXs a b c d e_ == tagXs p q r s t)) w := by
  rw [run_eql_struct]
  exact (congrArg (fun r => Result.andThen r fun b w' => Result.ok (Value.bool b) w') (equalIn_five a b c d e_ p q r s t w))
theorem cmpL_self (xs : List Int) : cmpL xs xs = 0 := by
  induction xs with
  | nil => rfl
  | cons x xs ih => simp [cmpL, ih]
theorem cmpL_eq : ∀ (xs ys : List Int), xs.length = ys.length → cmpL xs ys = 0 → xs = ys
  | [], [], _, _ => rfl
  | [], _ :: _, h, _ => by cases h
  | _ :: _, [], h, _ => by cases h
  | x :: xs, y :: ys, h, h0 => by
    simp only [cmpL] at h0
    split at h0
    · omega
    · split at h0
      · omega
      · rw [cmpL_eq xs ys (by simpa using h) h0, show x = y by omega]
theorem cmpL_neg : ∀ (xs ys : List Int), cmpL ys xs = -cmpL xs ys
  | [], [] => rfl
  | [], _ :: _ => rfl
  | _ :: _, [] => rfl
  | x :: xs, y :: ys => by
    have ih := cmpL_neg xs ys
    by_cases h1 : x < y
    · have h2 : ¬ y < x := by omega
      simp [cmpL, h1, h2]
    · by_cases h2 : y < x
      · simp [cmpL, h1, h2]
      · simp [cmpL, h1, h2, ih]
set_option maxHeartbeats 4000000 in
theorem compare_any (a b c d e_ p q r s t : Int) (w : World) :
    Calls Tryd.prog 19 #[.agg #[.int .i64 a, .int .i64 b, .int .i64 c, .int .i64 d, .int .i64 e_], .agg #[.int .i64 p, .int .i64 q, .int .i64 r, .int .i64 s, .int .i64 t]] w fun e w' => e = .returned (.int .i64 (cmpL (tagXs a b c d e_) (tagXs p q r s t))) ∧ Below w.heap.size w w' := by
  have A1 := (Below.refl w.heap.size w).alloc (Nat.le_refl _) (.cells #[.int .i64 a, .int .i64 b, .int .i64 c, .int .i64 d, .int .i64 e_] 23)
  have A2 := A1.alloc A1.size (.cells #[.int .i64 p, .int .i64 q, .int .i64 r, .int .i64 s, .int .i64 t] 23)
  have al2 := (Below.refl (w.alloc (.cells #[.int .i64 a, .int .i64 b, .int .i64 c, .int .i64 d, .int .i64 e_] 23)).heap.size (w.alloc (.cells #[.int .i64 a, .int .i64 b, .int .i64 c, .int .i64 d, .int .i64 e_] 23))).alloc (Nat.le_refl _) (.cells #[.int .i64 p, .int .i64 q, .int .i64 r, .int .i64 s, .int .i64 t] 23)
  have hz1 : (w.alloc (.cells #[.int .i64 a, .int .i64 b, .int .i64 c, .int .i64 d, .int .i64 e_] 23)).heap.size = w.heap.size + 1 := by simp
  have cx := cells_five w (.int .i64 a) (.int .i64 b) (.int .i64 c) (.int .i64 d) (.int .i64 e_) 23
  have cy := cells_five (w.alloc (.cells #[.int .i64 a, .int .i64 b, .int .i64 c, .int .i64 d, .int .i64 e_] 23)) (.int .i64 p) (.int .i64 q) (.int .i64 r) (.int .i64 s) (.int .i64 t) 23
  rw [hz1] at cy
  have x0 := cell_step al2 (cx 0 (by omega))
  have x1 := cell_step al2 (cx 1 (by omega))
  have x2 := cell_step al2 (cx 2 (by omega))
  have x3 := cell_step al2 (cx 3 (by omega))
  have x4 := cell_step al2 (cx 4 (by omega))
  have y0 := cy 0 (by omega)
  have y1 := cy 1 (by omega)
  have y2 := cy 2 (by omega)
  have y3 := cy 3 (by omega)
  have y4 := cy 4 (by omega)
  have HZ0 := Lib.hid (show ((w.alloc (.cells #[.int .i64 a, .int .i64 b, .int .i64 c, .int .i64 d, .int .i64 e_] 23)).alloc (.cells #[.int .i64 p, .int .i64 q, .int .i64 r, .int .i64 s, .int .i64 t] 23)).heap.size = w.heap.size + 2 by simp)
  clear cx cy al2 A1 hz1
  go_enter Tryd.func19, Tryd.ntmps19
  go_wp2_with fail
  generalize (w.alloc (.cells #[.int .i64 a, .int .i64 b, .int .i64 c, .int .i64 d, .int .i64 e_] 23)).alloc (.cells #[.int .i64 p, .int .i64 q, .int .i64 r, .int .i64 s, .int .i64 t] 23) = W0 at *
  have BB0 := Lib.hid A2.drew
  have HS0 := Lib.hid (show (fun w' : World => w'.cell? ⟨w.heap.size, 0, none⟩ = some (.int .i64 a) ∧ w'.cell? ⟨w.heap.size, 1, none⟩ = some (.int .i64 b) ∧ w'.cell? ⟨w.heap.size, 2, none⟩ = some (.int .i64 c) ∧ w'.cell? ⟨w.heap.size, 3, none⟩ = some (.int .i64 d) ∧ w'.cell? ⟨w.heap.size, 4, none⟩ = some (.int .i64 e_) ∧ w'.cell? ⟨w.heap.size + 1, 0, none⟩ = some (.int .i64 p) ∧ w'.cell? ⟨w.heap.size + 1, 1, none⟩ = some (.int .i64 q) ∧ w'.cell? ⟨w.heap.size + 1, 2, none⟩ = some (.int .i64 r) ∧ w'.cell? ⟨w.heap.size + 1, 3, none⟩ = some (.int .i64 s) ∧ w'.cell? ⟨w.heap.size + 1, 4, none⟩ = some (.int .i64 t) ∧ Below W0.heap.size W0 w') W0.drew from ⟨x0, x1, x2, x3, x4, y0, y1, y2, y3, y4, (Below.refl _ _).drew⟩)
  clear x0 x1 x2 x3 x4 y0 y1 y2 y3 y4 A2
  refine wp_region_held_drew (S := fun w' => w'.cell? ⟨w.heap.size, 0, none⟩ = some (.int .i64 a) ∧ w'.cell? ⟨w.heap.size, 1, none⟩ = some (.int .i64 b) ∧ w'.cell? ⟨w.heap.size, 2, none⟩ = some (.int .i64 c) ∧ w'.cell? ⟨w.heap.size, 3, none⟩ = some (.int .i64 d) ∧ w'.cell? ⟨w.heap.size, 4, none⟩ = some (.int .i64 e_) ∧ w'.cell? ⟨w.heap.size + 1, 0, none⟩ = some (.int .i64 p) ∧ w'.cell? ⟨w.heap.size + 1, 1, none⟩ = some (.int .i64 q) ∧ w'.cell? ⟨w.heap.size + 1, 2, none⟩ = some (.int .i64 r) ∧ w'.cell? ⟨w.heap.size + 1, 3, none⟩ = some (.int .i64 s) ∧ w'.cell? ⟨w.heap.size + 1, 4, none⟩ = some (.int .i64 t) ∧ Below W0.heap.size W0 w') (by kernel_rfl) ?_ (fun hHeld => ?_)
  · exact HS0.out
  clear HS0
  refine wpAnyH_take (i := 0) (v := ?v1) rfl (by kernel_rfl) (by kernel_rfl) (by kernel_rfl) (fun _ _ _ h => h) (Or.inl ⟨by rfl, ?hy1⟩) (by assumption) ?rest1
  case hy1 => (intro w hSw; (try dsimp only at hSw); go_simp; (first | done | with_reducible rfl))
  simp only [Act.put, List.setIfInBounds_toArray, List.set_cons_zero, List.set_cons_succ, List.getElem_toArray, List.getElem_cons_zero]
  refine wpAnyH_take (i := 2) (v := ?v2) rfl (by kernel_rfl) (by kernel_rfl) (by kernel_rfl) (fun _ _ _ h => h) (Or.inl ⟨by rfl, ?hy2⟩) (by assumption) ?rest2
  case hy2 => (intro w hSw; (try dsimp only at hSw); go_simp; (first | done | with_reducible rfl))
  simp only [Act.put, List.setIfInBounds_toArray, List.set_cons_zero, List.set_cons_succ, List.getElem_toArray, List.getElem_cons_zero, List.getElem_cons_succ]
  generalize W0.drew = Wd at *
  have HH0 := Lib.hid hHeld
  clear hHeld
  refine (fun (TAIL : Hid (?G : Prop)) => ?main) (Lib.hid ?tail)
  case main =>
    have hHeld := HH0.out
    refine wpAnyH_ready (rs := [1, 4, 5]) (by kernel_rfl) (by simp) ?_
    refine AllReadyH.cons rfl (fun K hK => ?_) ?_
    · skip
      try simp only [Act.put, List.setIfInBounds_toArray, List.set_cons_zero, List.set_cons_succ, List.getElem_toArray, List.getElem_cons_zero, List.getElem_cons_succ]
      go_simp
      go_at_call 25
      obtain ⟨h0, h1, h2, h3, h4, h5, h6, h7, h8, h9, hB⟩ := hHeld
      refine (parts_any a b c d e_ _).mono ?_
      rintro e w_1 ⟨rfl, g1⟩
      go_wp2_with fail
      have BB1 := Lib.hid (below_step BB0.out g1)
      refine hK.out _ _ ⟨cell_step g1 h0, cell_step g1 h1, cell_step g1 h2, cell_step g1 h3, cell_step g1 h4, cell_step g1 h5, cell_step g1 h6, cell_step g1 h7, cell_step g1 h8, cell_step g1 h9, below_step hB g1⟩ (fun hHeld => ?_)
      clear hK K h0 h1 h2 h3 h4 h5 h6 h7 h8 h9 hB g1
      try simp only [Act.put, List.setIfInBounds_toArray, List.set_cons_zero, List.set_cons_succ, List.getElem_toArray, List.getElem_cons_zero, List.getElem_cons_succ]
      refine wpAnyH_ready (rs := [3, 4, 5]) (by kernel_rfl) (by simp) ?_
      refine AllReadyH.cons rfl (fun K hK => ?_) ?_
      · skip
        try simp only [Act.put, List.setIfInBounds_toArray, List.set_cons_zero, List.set_cons_succ, List.getElem_toArray, List.getElem_cons_zero, List.getElem_cons_succ]
        go_simp
        go_at_call 25
        obtain ⟨h0, h1, h2, h3, h4, h5, h6, h7, h8, h9, hB⟩ := hHeld
        refine (parts_any p q r s t _).mono ?_
        rintro e w_2 ⟨rfl, g2⟩
        go_wp2_with fail
        have BB2 := Lib.hid (below_step BB1.out g2)
        refine hK.out _ _ ⟨cell_step g2 h0, cell_step g2 h1, cell_step g2 h2, cell_step g2 h3, cell_step g2 h4, cell_step g2 h5, cell_step g2 h6, cell_step g2 h7, cell_step g2 h8, cell_step g2 h9, below_step hB g2⟩ (fun hHeld => ?_)
        clear hK K h0 h1 h2 h3 h4 h5 h6 h7 h8 h9 hB g2
        try simp only [Act.put, List.setIfInBounds_toArray, List.set_cons_zero, List.set_cons_succ, List.getElem_toArray, List.getElem_cons_zero, List.getElem_cons_succ]
        refine wpAnyH_ready (rs := [4, 5]) (by kernel_rfl) (by simp) ?_
        refine AllReadyH.cons rfl (fun K hK => ?_) ?_
        · skip
          try simp only [Act.put, List.setIfInBounds_toArray, List.set_cons_zero, List.set_cons_succ, List.getElem_toArray, List.getElem_cons_zero, List.getElem_cons_succ]
          go_simp
          obtain ⟨h0, h1, h2, h3, h4, h5, h6, h7, h8, h9, hB⟩ := hHeld
          have g3 := (Below.refl w_2.heap.size w_2).alloc (Nat.le_refl _) (.cells #[.int .i64 0, .int .i64 0, .int .i64 0, .int .i64 0, .int .i64 0] 44)
          have zz := Row5.zero w_2 44
          have ff := World.frozen?_alloc_new w_2 #[.int .i64 0, .int .i64 0, .int .i64 0, .int .i64 0, .int .i64 0] 44
          generalize w_2.alloc (.cells #[.int .i64 0, .int .i64 0, .int .i64 0, .int .i64 0, .int .i64 0] 44) = w_3 at *
          have Z3_4 := Lib.hid zz
          have F3_4 := Lib.hid (fun j (hj : j < 5) => ff j)
          have SZ4 := Lib.hid hB.size
          clear zz ff
          have BB3 := Lib.hid (below_step BB2.out g3)
          refine hK.out _ _ ⟨cell_step g3 h0, cell_step g3 h1, cell_step g3 h2, cell_step g3 h3, cell_step g3 h4, cell_step g3 h5, cell_step g3 h6, cell_step g3 h7, cell_step g3 h8, cell_step g3 h9, below_step hB g3⟩ (fun hHeld => ?_)
          clear hK K h0 h1 h2 h3 h4 h5 h6 h7 h8 h9 hB g3
          try simp only [Act.put, List.setIfInBounds_toArray, List.set_cons_zero, List.set_cons_succ, List.getElem_toArray, List.getElem_cons_zero, List.getElem_cons_succ]
          refine wpAnyH_ready (rs := [5]) (by kernel_rfl) (by simp) ?_
          refine AllReadyH.cons rfl (fun K hK => ?_) AllReadyH.nil
          try simp only [Act.put, List.setIfInBounds_toArray, List.set_cons_zero, List.set_cons_succ, List.getElem_toArray, List.getElem_cons_zero, List.getElem_cons_succ]
          go_simp
          obtain ⟨h0, h1, h2, h3, h4, h5, h6, h7, h8, h9, hB⟩ := hHeld
          have g4 := (Below.refl w_3.heap.size w_3).alloc (Nat.le_refl _) (.cells #[.int .i64 0, .int .i64 0, .int .i64 0, .int .i64 0, .int .i64 0] 44)
          have zz := Row5.zero w_3 44
          have ff := World.frozen?_alloc_new w_3 #[.int .i64 0, .int .i64 0, .int .i64 0, .int .i64 0, .int .i64 0] 44
          generalize w_3.alloc (.cells #[.int .i64 0, .int .i64 0, .int .i64 0, .int .i64 0, .int .i64 0] 44) = w_4 at *
          have Z4_5 := Lib.hid zz
          have F4_5 := Lib.hid (fun j (hj : j < 5) => ff j)
          have SZ5 := Lib.hid hB.size
          have NE := Lib.hid (Nat.ne_of_lt (World.block_lt_of_cell? _ _ (Z3_4.out 0 (by omega))))
          have Z4_4 := Lib.hid (Z3_4.out.step g4)
          have F4_4 := Lib.hid (fun j (hj : j < 5) => frozen_step g4 (Z3_4.out j hj) (F3_4.out j hj))
          clear zz ff
          have BB4 := Lib.hid (below_step BB3.out g4)
          refine hK.out _ _ ⟨cell_step g4 h0, cell_step g4 h1, cell_step g4 h2, cell_step g4 h3, cell_step g4 h4, cell_step g4 h5, cell_step g4 h6, cell_step g4 h7, cell_step g4 h8, cell_step g4 h9, below_step hB g4⟩ (fun hHeld => ?_)
          clear hK K h0 h1 h2 h3 h4 h5 h6 h7 h8 h9 hB g4
          try simp only [Act.put, List.setIfInBounds_toArray, List.set_cons_zero, List.set_cons_succ, List.getElem_toArray, List.getElem_cons_zero, List.getElem_cons_succ]
          have FF := Lib.hid (And.intro NE.out (And.intro SZ4.out (And.intro SZ5.out (And.intro Z4_4.out (And.intro F4_4.out (And.intro Z4_5.out (And.intro F4_5.out (And.intro BB4.out hHeld))))))))
          clear hHeld
          generalize w_2.heap.size = ga at FF ⊢
          generalize w_3.heap.size = gb at FF ⊢
          revert FF
          generalize w_4 = wz
          revert wz gb ga
          exact TAIL.out
        refine AllReadyH.cons rfl (fun K hK => ?_) AllReadyH.nil
        try simp only [Act.put, List.setIfInBounds_toArray, List.set_cons_zero, List.set_cons_succ, List.getElem_toArray, List.getElem_cons_zero, List.getElem_cons_succ]
        go_simp
        obtain ⟨h0, h1, h2, h3, h4, h5, h6, h7, h8, h9, hB⟩ := hHeld
        have g5 := (Below.refl w_2.heap.size w_2).alloc (Nat.le_refl _) (.cells #[.int .i64 0, .int .i64 0, .int .i64 0, .int .i64 0, .int .i64 0] 44)
        have zz := Row5.zero w_2 44
        have ff := World.frozen?_alloc_new w_2 #[.int .i64 0, .int .i64 0, .int .i64 0, .int .i64 0, .int .i64 0] 44
        generalize w_2.alloc (.cells #[.int .i64 0, .int .i64 0, .int .i64 0, .int .i64 0, .int .i64 0] 44) = w_5 at *
        have Z5_5 := Lib.hid zz
        have F5_5 := Lib.hid (fun j (hj : j < 5) => ff j)
        have SZ5 := Lib.hid hB.size
        clear zz ff
        have BB5 := Lib.hid (below_step BB2.out g5)
        refine hK.out _ _ ⟨cell_step g5 h0, cell_step g5 h1, cell_step g5 h2, cell_step g5 h3, cell_step g5 h4, cell_step g5 h5, cell_step g5 h6, cell_step g5 h7, cell_step g5 h8, cell_step g5 h9, below_step hB g5⟩ (fun hHeld => ?_)
        clear hK K h0 h1 h2 h3 h4 h5 h6 h7 h8 h9 hB g5
        try simp only [Act.put, List.setIfInBounds_toArray, List.set_cons_zero, List.set_cons_succ, List.getElem_toArray, List.getElem_cons_zero, List.getElem_cons_succ]
        refine wpAnyH_ready (rs := [4]) (by kernel_rfl) (by simp) ?_
        refine AllReadyH.cons rfl (fun K hK => ?_) AllReadyH.nil
        try simp only [Act.put, List.setIfInBounds_toArray, List.set_cons_zero, List.set_cons_succ, List.getElem_toArray, List.getElem_cons_zero, List.getElem_cons_succ]
        go_simp
        obtain ⟨h0, h1, h2, h3, h4, h5, h6, h7, h8, h9, hB⟩ := hHeld
        have g6 := (Below.refl w_5.heap.size w_5).alloc (Nat.le_refl _) (.cells #[.int .i64 0, .int .i64 0, .int .i64 0, .int .i64 0, .int .i64 0] 44)
        have zz := Row5.zero w_5 44
        have ff := World.frozen?_alloc_new w_5 #[.int .i64 0, .int .i64 0, .int .i64 0, .int .i64 0, .int .i64 0] 44
        generalize w_5.alloc (.cells #[.int .i64 0, .int .i64 0, .int .i64 0, .int .i64 0, .int .i64 0] 44) = w_6 at *
        have Z6_4 := Lib.hid zz
        have F6_4 := Lib.hid (fun j (hj : j < 5) => ff j)
        have SZ4 := Lib.hid hB.size
        have NE := Lib.hid (Nat.ne_of_lt (World.block_lt_of_cell? _ _ (Z5_5.out 0 (by omega))))
        have Z6_5 := Lib.hid (Z5_5.out.step g6)
        have F6_5 := Lib.hid (fun j (hj : j < 5) => frozen_step g6 (Z5_5.out j hj) (F5_5.out j hj))
        clear zz ff
        have BB6 := Lib.hid (below_step BB5.out g6)
        refine hK.out _ _ ⟨cell_step g6 h0, cell_step g6 h1, cell_step g6 h2, cell_step g6 h3, cell_step g6 h4, cell_step g6 h5, cell_step g6 h6, cell_step g6 h7, cell_step g6 h8, cell_step g6 h9, below_step hB g6⟩ (fun hHeld => ?_)
        clear hK K h0 h1 h2 h3 h4 h5 h6 h7 h8 h9 hB g6
        try simp only [Act.put, List.setIfInBounds_toArray, List.set_cons_zero, List.set_cons_succ, List.getElem_toArray, List.getElem_cons_zero, List.getElem_cons_succ]
        have FF := Lib.hid (And.intro NE.out.symm (And.intro SZ4.out (And.intro SZ5.out (And.intro Z6_4.out (And.intro F6_4.out (And.intro Z6_5.out (And.intro F6_5.out (And.intro BB6.out hHeld))))))))
        exact TAIL.out _ _ _ FF
      refine AllReadyH.cons rfl (fun K hK => ?_) ?_
      · skip
        try simp only [Act.put, List.setIfInBounds_toArray, List.set_cons_zero, List.set_cons_succ, List.getElem_toArray, List.getElem_cons_zero, List.getElem_cons_succ]
        go_simp
        obtain ⟨h0, h1, h2, h3, h4, h5, h6, h7, h8, h9, hB⟩ := hHeld
        have g7 := (Below.refl w_1.heap.size w_1).alloc (Nat.le_refl _) (.cells #[.int .i64 0, .int .i64 0, .int .i64 0, .int .i64 0, .int .i64 0] 44)
        have zz := Row5.zero w_1 44
        have ff := World.frozen?_alloc_new w_1 #[.int .i64 0, .int .i64 0, .int .i64 0, .int .i64 0, .int .i64 0] 44
        generalize w_1.alloc (.cells #[.int .i64 0, .int .i64 0, .int .i64 0, .int .i64 0, .int .i64 0] 44) = w_7 at *
        have Z7_4 := Lib.hid zz
        have F7_4 := Lib.hid (fun j (hj : j < 5) => ff j)
        have SZ4 := Lib.hid hB.size
        clear zz ff
        have BB7 := Lib.hid (below_step BB1.out g7)
        refine hK.out _ _ ⟨cell_step g7 h0, cell_step g7 h1, cell_step g7 h2, cell_step g7 h3, cell_step g7 h4, cell_step g7 h5, cell_step g7 h6, cell_step g7 h7, cell_step g7 h8, cell_step g7 h9, below_step hB g7⟩ (fun hHeld => ?_)
        clear hK K h0 h1 h2 h3 h4 h5 h6 h7 h8 h9 hB g7
        try simp only [Act.put, List.setIfInBounds_toArray, List.set_cons_zero, List.set_cons_succ, List.getElem_toArray, List.getElem_cons_zero, List.getElem_cons_succ]
        refine wpAnyH_ready (rs := [3, 5]) (by kernel_rfl) (by simp) ?_
        refine AllReadyH.cons rfl (fun K hK => ?_) ?_
        · skip
          try simp only [Act.put, List.setIfInBounds_toArray, List.set_cons_zero, List.set_cons_succ, List.getElem_toArray, List.getElem_cons_zero, List.getElem_cons_succ]
          go_simp
          go_at_call 25
          obtain ⟨h0, h1, h2, h3, h4, h5, h6, h7, h8, h9, hB⟩ := hHeld
          refine (parts_any p q r s t _).mono ?_
          rintro e w_8 ⟨rfl, g8⟩
          go_wp2_with fail
          have Z8_4 := Lib.hid (Z7_4.out.step g8)
          have F8_4 := Lib.hid (fun j (hj : j < 5) => frozen_step g8 (Z7_4.out j hj) (F7_4.out j hj))
          have BB8 := Lib.hid (below_step BB7.out g8)
          refine hK.out _ _ ⟨cell_step g8 h0, cell_step g8 h1, cell_step g8 h2, cell_step g8 h3, cell_step g8 h4, cell_step g8 h5, cell_step g8 h6, cell_step g8 h7, cell_step g8 h8, cell_step g8 h9, below_step hB g8⟩ (fun hHeld => ?_)
          clear hK K h0 h1 h2 h3 h4 h5 h6 h7 h8 h9 hB g8
          try simp only [Act.put, List.setIfInBounds_toArray, List.set_cons_zero, List.set_cons_succ, List.getElem_toArray, List.getElem_cons_zero, List.getElem_cons_succ]
          refine wpAnyH_ready (rs := [5]) (by kernel_rfl) (by simp) ?_
          refine AllReadyH.cons rfl (fun K hK => ?_) AllReadyH.nil
          try simp only [Act.put, List.setIfInBounds_toArray, List.set_cons_zero, List.set_cons_succ, List.getElem_toArray, List.getElem_cons_zero, List.getElem_cons_succ]
          go_simp
          obtain ⟨h0, h1, h2, h3, h4, h5, h6, h7, h8, h9, hB⟩ := hHeld
          have g9 := (Below.refl w_8.heap.size w_8).alloc (Nat.le_refl _) (.cells #[.int .i64 0, .int .i64 0, .int .i64 0, .int .i64 0, .int .i64 0] 44)
          have zz := Row5.zero w_8 44
          have ff := World.frozen?_alloc_new w_8 #[.int .i64 0, .int .i64 0, .int .i64 0, .int .i64 0, .int .i64 0] 44
          generalize w_8.alloc (.cells #[.int .i64 0, .int .i64 0, .int .i64 0, .int .i64 0, .int .i64 0] 44) = w_9 at *
          have Z9_5 := Lib.hid zz
          have F9_5 := Lib.hid (fun j (hj : j < 5) => ff j)
          have SZ5 := Lib.hid hB.size
          have NE := Lib.hid (Nat.ne_of_lt (World.block_lt_of_cell? _ _ (Z8_4.out 0 (by omega))))
          have Z9_4 := Lib.hid (Z8_4.out.step g9)
          have F9_4 := Lib.hid (fun j (hj : j < 5) => frozen_step g9 (Z8_4.out j hj) (F8_4.out j hj))
          clear zz ff
          have BB9 := Lib.hid (below_step BB8.out g9)
          refine hK.out _ _ ⟨cell_step g9 h0, cell_step g9 h1, cell_step g9 h2, cell_step g9 h3, cell_step g9 h4, cell_step g9 h5, cell_step g9 h6, cell_step g9 h7, cell_step g9 h8, cell_step g9 h9, below_step hB g9⟩ (fun hHeld => ?_)
          clear hK K h0 h1 h2 h3 h4 h5 h6 h7 h8 h9 hB g9
          try simp only [Act.put, List.setIfInBounds_toArray, List.set_cons_zero, List.set_cons_succ, List.getElem_toArray, List.getElem_cons_zero, List.getElem_cons_succ]
          have FF := Lib.hid (And.intro NE.out (And.intro SZ4.out (And.intro SZ5.out (And.intro Z9_4.out (And.intro F9_4.out (And.intro Z9_5.out (And.intro F9_5.out (And.intro BB9.out hHeld))))))))
          exact TAIL.out _ _ _ FF
        refine AllReadyH.cons rfl (fun K hK => ?_) AllReadyH.nil
        try simp only [Act.put, List.setIfInBounds_toArray, List.set_cons_zero, List.set_cons_succ, List.getElem_toArray, List.getElem_cons_zero, List.getElem_cons_succ]
        go_simp
        obtain ⟨h0, h1, h2, h3, h4, h5, h6, h7, h8, h9, hB⟩ := hHeld
        have g10 := (Below.refl w_7.heap.size w_7).alloc (Nat.le_refl _) (.cells #[.int .i64 0, .int .i64 0, .int .i64 0, .int .i64 0, .int .i64 0] 44)
        have zz := Row5.zero w_7 44
        have ff := World.frozen?_alloc_new w_7 #[.int .i64 0, .int .i64 0, .int .i64 0, .int .i64 0, .int .i64 0] 44
        generalize w_7.alloc (.cells #[.int .i64 0, .int .i64 0, .int .i64 0, .int .i64 0, .int .i64 0] 44) = w_10 at *
        have Z10_5 := Lib.hid zz
        have F10_5 := Lib.hid (fun j (hj : j < 5) => ff j)
        have SZ5 := Lib.hid hB.size
        have NE := Lib.hid (Nat.ne_of_lt (World.block_lt_of_cell? _ _ (Z7_4.out 0 (by omega))))
        have Z10_4 := Lib.hid (Z7_4.out.step g10)
        have F10_4 := Lib.hid (fun j (hj : j < 5) => frozen_step g10 (Z7_4.out j hj) (F7_4.out j hj))
        clear zz ff
        have BB10 := Lib.hid (below_step BB7.out g10)
        refine hK.out _ _ ⟨cell_step g10 h0, cell_step g10 h1, cell_step g10 h2, cell_step g10 h3, cell_step g10 h4, cell_step g10 h5, cell_step g10 h6, cell_step g10 h7, cell_step g10 h8, cell_step g10 h9, below_step hB g10⟩ (fun hHeld => ?_)
        clear hK K h0 h1 h2 h3 h4 h5 h6 h7 h8 h9 hB g10
        try simp only [Act.put, List.setIfInBounds_toArray, List.set_cons_zero, List.set_cons_succ, List.getElem_toArray, List.getElem_cons_zero, List.getElem_cons_succ]
        refine wpAnyH_ready (rs := [3]) (by kernel_rfl) (by simp) ?_
        refine AllReadyH.cons rfl (fun K hK => ?_) AllReadyH.nil
        try simp only [Act.put, List.setIfInBounds_toArray, List.set_cons_zero, List.set_cons_succ, List.getElem_toArray, List.getElem_cons_zero, List.getElem_cons_succ]
        go_simp
        go_at_call 25
        obtain ⟨h0, h1, h2, h3, h4, h5, h6, h7, h8, h9, hB⟩ := hHeld
        refine (parts_any p q r s t _).mono ?_
        rintro e w_11 ⟨rfl, g11⟩
        go_wp2_with fail
        have Z11_4 := Lib.hid (Z10_4.out.step g11)
        have F11_4 := Lib.hid (fun j (hj : j < 5) => frozen_step g11 (Z10_4.out j hj) (F10_4.out j hj))
        have Z11_5 := Lib.hid (Z10_5.out.step g11)
        have F11_5 := Lib.hid (fun j (hj : j < 5) => frozen_step g11 (Z10_5.out j hj) (F10_5.out j hj))
        have BB11 := Lib.hid (below_step BB10.out g11)
        refine hK.out _ _ ⟨cell_step g11 h0, cell_step g11 h1, cell_step g11 h2, cell_step g11 h3, cell_step g11 h4, cell_step g11 h5, cell_step g11 h6, cell_step g11 h7, cell_step g11 h8, cell_step g11 h9, below_step hB g11⟩ (fun hHeld => ?_)
        clear hK K h0 h1 h2 h3 h4 h5 h6 h7 h8 h9 hB g11
        try simp only [Act.put, List.setIfInBounds_toArray, List.set_cons_zero, List.set_cons_succ, List.getElem_toArray, List.getElem_cons_zero, List.getElem_cons_succ]
        have FF := Lib.hid (And.intro NE.out (And.intro SZ4.out (And.intro SZ5.out (And.intro Z11_4.out (And.intro F11_4.out (And.intro Z11_5.out (And.intro F11_5.out (And.intro BB11.out hHeld))))))))
        exact TAIL.out _ _ _ FF
      refine AllReadyH.cons rfl (fun K hK => ?_) AllReadyH.nil
      try simp only [Act.put, List.setIfInBounds_toArray, List.set_cons_zero, List.set_cons_succ, List.getElem_toArray, List.getElem_cons_zero, List.getElem_cons_succ]
      go_simp
      obtain ⟨h0, h1, h2, h3, h4, h5, h6, h7, h8, h9, hB⟩ := hHeld
      have g12 := (Below.refl w_1.heap.size w_1).alloc (Nat.le_refl _) (.cells #[.int .i64 0, .int .i64 0, .int .i64 0, .int .i64 0, .int .i64 0] 44)
      have zz := Row5.zero w_1 44
      have ff := World.frozen?_alloc_new w_1 #[.int .i64 0, .int .i64 0, .int .i64 0, .int .i64 0, .int .i64 0] 44
      generalize w_1.alloc (.cells #[.int .i64 0, .int .i64 0, .int .i64 0, .int .i64 0, .int .i64 0] 44) = w_12 at *
      have Z12_5 := Lib.hid zz
      have F12_5 := Lib.hid (fun j (hj : j < 5) => ff j)
      have SZ5 := Lib.hid hB.size
      clear zz ff
      have BB12 := Lib.hid (below_step BB1.out g12)
      refine hK.out _ _ ⟨cell_step g12 h0, cell_step g12 h1, cell_step g12 h2, cell_step g12 h3, cell_step g12 h4, cell_step g12 h5, cell_step g12 h6, cell_step g12 h7, cell_step g12 h8, cell_step g12 h9, below_step hB g12⟩ (fun hHeld => ?_)
      clear hK K h0 h1 h2 h3 h4 h5 h6 h7 h8 h9 hB g12
      try simp only [Act.put, List.setIfInBounds_toArray, List.set_cons_zero, List.set_cons_succ, List.getElem_toArray, List.getElem_cons_zero, List.getElem_cons_succ]
      refine wpAnyH_ready (rs := [3, 4]) (by kernel_rfl) (by simp) ?_
      refine AllReadyH.cons rfl (fun K hK => ?_) ?_
      · skip
        try simp only [Act.put, List.setIfInBounds_toArray, List.set_cons_zero, List.set_cons_succ, List.getElem_toArray, List.getElem_cons_zero, List.getElem_cons_succ]
        go_simp
        go_at_call 25
        obtain ⟨h0, h1, h2, h3, h4, h5, h6, h7, h8, h9, hB⟩ := hHeld
        refine (parts_any p q r s t _).mono ?_
        rintro e w_13 ⟨rfl, g13⟩
        go_wp2_with fail
        have Z13_5 := Lib.hid (Z12_5.out.step g13)
        have F13_5 := Lib.hid (fun j (hj : j < 5) => frozen_step g13 (Z12_5.out j hj) (F12_5.out j hj))
        have BB13 := Lib.hid (below_step BB12.out g13)
        refine hK.out _ _ ⟨cell_step g13 h0, cell_step g13 h1, cell_step g13 h2, cell_step g13 h3, cell_step g13 h4, cell_step g13 h5, cell_step g13 h6, cell_step g13 h7, cell_step g13 h8, cell_step g13 h9, below_step hB g13⟩ (fun hHeld => ?_)
        clear hK K h0 h1 h2 h3 h4 h5 h6 h7 h8 h9 hB g13
        try simp only [Act.put, List.setIfInBounds_toArray, List.set_cons_zero, List.set_cons_succ, List.getElem_toArray, List.getElem_cons_zero, List.getElem_cons_succ]
        refine wpAnyH_ready (rs := [4]) (by kernel_rfl) (by simp) ?_
        refine AllReadyH.cons rfl (fun K hK => ?_) AllReadyH.nil
        try simp only [Act.put, List.setIfInBounds_toArray, List.set_cons_zero, List.set_cons_succ, List.getElem_toArray, List.getElem_cons_zero, List.getElem_cons_succ]
        go_simp
        obtain ⟨h0, h1, h2, h3, h4, h5, h6, h7, h8, h9, hB⟩ := hHeld
        have g14 := (Below.refl w_13.heap.size w_13).alloc (Nat.le_refl _) (.cells #[.int .i64 0, .int .i64 0, .int .i64 0, .int .i64 0, .int .i64 0] 44)
        have zz := Row5.zero w_13 44
        have ff := World.frozen?_alloc_new w_13 #[.int .i64 0, .int .i64 0, .int .i64 0, .int .i64 0, .int .i64 0] 44
        generalize w_13.alloc (.cells #[.int .i64 0, .int .i64 0, .int .i64 0, .int .i64 0, .int .i64 0] 44) = w_14 at *
        have Z14_4 := Lib.hid zz
        have F14_4 := Lib.hid (fun j (hj : j < 5) => ff j)
        have SZ4 := Lib.hid hB.size
        have NE := Lib.hid (Nat.ne_of_lt (World.block_lt_of_cell? _ _ (Z13_5.out 0 (by omega))))
        have Z14_5 := Lib.hid (Z13_5.out.step g14)
        have F14_5 := Lib.hid (fun j (hj : j < 5) => frozen_step g14 (Z13_5.out j hj) (F13_5.out j hj))
        clear zz ff
        have BB14 := Lib.hid (below_step BB13.out g14)
        refine hK.out _ _ ⟨cell_step g14 h0, cell_step g14 h1, cell_step g14 h2, cell_step g14 h3, cell_step g14 h4, cell_step g14 h5, cell_step g14 h6, cell_step g14 h7, cell_step g14 h8, cell_step g14 h9, below_step hB g14⟩ (fun hHeld => ?_)
        clear hK K h0 h1 h2 h3 h4 h5 h6 h7 h8 h9 hB g14
        try simp only [Act.put, List.setIfInBounds_toArray, List.set_cons_zero, List.set_cons_succ, List.getElem_toArray, List.getElem_cons_zero, List.getElem_cons_succ]
        have FF := Lib.hid (And.intro NE.out.symm (And.intro SZ4.out (And.intro SZ5.out (And.intro Z14_4.out (And.intro F14_4.out (And.intro Z14_5.out (And.intro F14_5.out (And.intro BB14.out hHeld))))))))
        exact TAIL.out _ _ _ FF
      refine AllReadyH.cons rfl (fun K hK => ?_) AllReadyH.nil
      try simp only [Act.put, List.setIfInBounds_toArray, List.set_cons_zero, List.set_cons_succ, List.getElem_toArray, List.getElem_cons_zero, List.getElem_cons_succ]
      go_simp
      obtain ⟨h0, h1, h2, h3, h4, h5, h6, h7, h8, h9, hB⟩ := hHeld
      have g15 := (Below.refl w_12.heap.size w_12).alloc (Nat.le_refl _) (.cells #[.int .i64 0, .int .i64 0, .int .i64 0, .int .i64 0, .int .i64 0] 44)
      have zz := Row5.zero w_12 44
      have ff := World.frozen?_alloc_new w_12 #[.int .i64 0, .int .i64 0, .int .i64 0, .int .i64 0, .int .i64 0] 44
      generalize w_12.alloc (.cells #[.int .i64 0, .int .i64 0, .int .i64 0, .int .i64 0, .int .i64 0] 44) = w_15 at *
      have Z15_4 := Lib.hid zz
      have F15_4 := Lib.hid (fun j (hj : j < 5) => ff j)
      have SZ4 := Lib.hid hB.size
      have NE := Lib.hid (Nat.ne_of_lt (World.block_lt_of_cell? _ _ (Z12_5.out 0 (by omega))))
      have Z15_5 := Lib.hid (Z12_5.out.step g15)
      have F15_5 := Lib.hid (fun j (hj : j < 5) => frozen_step g15 (Z12_5.out j hj) (F12_5.out j hj))
      clear zz ff
      have BB15 := Lib.hid (below_step BB12.out g15)
      refine hK.out _ _ ⟨cell_step g15 h0, cell_step g15 h1, cell_step g15 h2, cell_step g15 h3, cell_step g15 h4, cell_step g15 h5, cell_step g15 h6, cell_step g15 h7, cell_step g15 h8, cell_step g15 h9, below_step hB g15⟩ (fun hHeld => ?_)
      clear hK K h0 h1 h2 h3 h4 h5 h6 h7 h8 h9 hB g15
      try simp only [Act.put, List.setIfInBounds_toArray, List.set_cons_zero, List.set_cons_succ, List.getElem_toArray, List.getElem_cons_zero, List.getElem_cons_succ]
      refine wpAnyH_ready (rs := [3]) (by kernel_rfl) (by simp) ?_
      refine AllReadyH.cons rfl (fun K hK => ?_) AllReadyH.nil
      try simp only [Act.put, List.setIfInBounds_toArray, List.set_cons_zero, List.set_cons_succ, List.getElem_toArray, List.getElem_cons_zero, List.getElem_cons_succ]
      go_simp
      go_at_call 25
      obtain ⟨h0, h1, h2, h3, h4, h5, h6, h7, h8, h9, hB⟩ := hHeld
      refine (parts_any p q r s t _).mono ?_
      rintro e w_16 ⟨rfl, g16⟩
      go_wp2_with fail
      have Z16_5 := Lib.hid (Z15_5.out.step g16)
      have F16_5 := Lib.hid (fun j (hj : j < 5) => frozen_step g16 (Z15_5.out j hj) (F15_5.out j hj))
      have Z16_4 := Lib.hid (Z15_4.out.step g16)
      have F16_4 := Lib.hid (fun j (hj : j < 5) => frozen_step g16 (Z15_4.out j hj) (F15_4.out j hj))
      have BB16 := Lib.hid (below_step BB15.out g16)
      refine hK.out _ _ ⟨cell_step g16 h0, cell_step g16 h1, cell_step g16 h2, cell_step g16 h3, cell_step g16 h4, cell_step g16 h5, cell_step g16 h6, cell_step g16 h7, cell_step g16 h8, cell_step g16 h9, below_step hB g16⟩ (fun hHeld => ?_)
      clear hK K h0 h1 h2 h3 h4 h5 h6 h7 h8 h9 hB g16
      try simp only [Act.put, List.setIfInBounds_toArray, List.set_cons_zero, List.set_cons_succ, List.getElem_toArray, List.getElem_cons_zero, List.getElem_cons_succ]
      have FF := Lib.hid (And.intro NE.out.symm (And.intro SZ4.out (And.intro SZ5.out (And.intro Z16_4.out (And.intro F16_4.out (And.intro Z16_5.out (And.intro F16_5.out (And.intro BB16.out hHeld))))))))
      exact TAIL.out _ _ _ FF
    refine AllReadyH.cons rfl (fun K hK => ?_) ?_
    · skip
      try simp only [Act.put, List.setIfInBounds_toArray, List.set_cons_zero, List.set_cons_succ, List.getElem_toArray, List.getElem_cons_zero, List.getElem_cons_succ]
      go_simp
      obtain ⟨h0, h1, h2, h3, h4, h5, h6, h7, h8, h9, hB⟩ := hHeld
      have g17 := (Below.refl Wd.heap.size Wd).alloc (Nat.le_refl _) (.cells #[.int .i64 0, .int .i64 0, .int .i64 0, .int .i64 0, .int .i64 0] 44)
      have zz := Row5.zero Wd 44
      have ff := World.frozen?_alloc_new Wd #[.int .i64 0, .int .i64 0, .int .i64 0, .int .i64 0, .int .i64 0] 44
      generalize Wd.alloc (.cells #[.int .i64 0, .int .i64 0, .int .i64 0, .int .i64 0, .int .i64 0] 44) = w_17 at *
      have Z17_4 := Lib.hid zz
      have F17_4 := Lib.hid (fun j (hj : j < 5) => ff j)
      have SZ4 := Lib.hid hB.size
      clear zz ff
      have BB17 := Lib.hid (below_step BB0.out g17)
      refine hK.out _ _ ⟨cell_step g17 h0, cell_step g17 h1, cell_step g17 h2, cell_step g17 h3, cell_step g17 h4, cell_step g17 h5, cell_step g17 h6, cell_step g17 h7, cell_step g17 h8, cell_step g17 h9, below_step hB g17⟩ (fun hHeld => ?_)
      clear hK K h0 h1 h2 h3 h4 h5 h6 h7 h8 h9 hB g17
      try simp only [Act.put, List.setIfInBounds_toArray, List.set_cons_zero, List.set_cons_succ, List.getElem_toArray, List.getElem_cons_zero, List.getElem_cons_succ]
      refine wpAnyH_ready (rs := [1, 5]) (by kernel_rfl) (by simp) ?_
      refine AllReadyH.cons rfl (fun K hK => ?_) ?_
      · skip
        try simp only [Act.put, List.setIfInBounds_toArray, List.set_cons_zero, List.set_cons_succ, List.getElem_toArray, List.getElem_cons_zero, List.getElem_cons_succ]
        go_simp
        go_at_call 25
        obtain ⟨h0, h1, h2, h3, h4, h5, h6, h7, h8, h9, hB⟩ := hHeld
        refine (parts_any a b c d e_ _).mono ?_
        rintro e w_18 ⟨rfl, g18⟩
        go_wp2_with fail
        have Z18_4 := Lib.hid (Z17_4.out.step g18)
        have F18_4 := Lib.hid (fun j (hj : j < 5) => frozen_step g18 (Z17_4.out j hj) (F17_4.out j hj))
        have BB18 := Lib.hid (below_step BB17.out g18)
        refine hK.out _ _ ⟨cell_step g18 h0, cell_step g18 h1, cell_step g18 h2, cell_step g18 h3, cell_step g18 h4, cell_step g18 h5, cell_step g18 h6, cell_step g18 h7, cell_step g18 h8, cell_step g18 h9, below_step hB g18⟩ (fun hHeld => ?_)
        clear hK K h0 h1 h2 h3 h4 h5 h6 h7 h8 h9 hB g18
        try simp only [Act.put, List.setIfInBounds_toArray, List.set_cons_zero, List.set_cons_succ, List.getElem_toArray, List.getElem_cons_zero, List.getElem_cons_succ]
        refine wpAnyH_ready (rs := [3, 5]) (by kernel_rfl) (by simp) ?_
        refine AllReadyH.cons rfl (fun K hK => ?_) ?_
        · skip
          try simp only [Act.put, List.setIfInBounds_toArray, List.set_cons_zero, List.set_cons_succ, List.getElem_toArray, List.getElem_cons_zero, List.getElem_cons_succ]
          go_simp
          go_at_call 25
          obtain ⟨h0, h1, h2, h3, h4, h5, h6, h7, h8, h9, hB⟩ := hHeld
          refine (parts_any p q r s t _).mono ?_
          rintro e w_19 ⟨rfl, g19⟩
          go_wp2_with fail
          have Z19_4 := Lib.hid (Z18_4.out.step g19)
          have F19_4 := Lib.hid (fun j (hj : j < 5) => frozen_step g19 (Z18_4.out j hj) (F18_4.out j hj))
          have BB19 := Lib.hid (below_step BB18.out g19)
          refine hK.out _ _ ⟨cell_step g19 h0, cell_step g19 h1, cell_step g19 h2, cell_step g19 h3, cell_step g19 h4, cell_step g19 h5, cell_step g19 h6, cell_step g19 h7, cell_step g19 h8, cell_step g19 h9, below_step hB g19⟩ (fun hHeld => ?_)
          clear hK K h0 h1 h2 h3 h4 h5 h6 h7 h8 h9 hB g19
          try simp only [Act.put, List.setIfInBounds_toArray, List.set_cons_zero, List.set_cons_succ, List.getElem_toArray, List.getElem_cons_zero, List.getElem_cons_succ]
          refine wpAnyH_ready (rs := [5]) (by kernel_rfl) (by simp) ?_
          refine AllReadyH.cons rfl (fun K hK => ?_) AllReadyH.nil
          try simp only [Act.put, List.setIfInBounds_toArray, List.set_cons_zero, List.set_cons_succ, List.getElem_toArray, List.getElem_cons_zero, List.getElem_cons_succ]
          go_simp
          obtain ⟨h0, h1, h2, h3, h4, h5, h6, h7, h8, h9, hB⟩ := hHeld
          have g20 := (Below.refl w_19.heap.size w_19).alloc (Nat.le_refl _) (.cells #[.int .i64 0, .int .i64 0, .int .i64 0, .int .i64 0, .int .i64 0] 44)
          have zz := Row5.zero w_19 44
          have ff := World.frozen?_alloc_new w_19 #[.int .i64 0, .int .i64 0, .int .i64 0, .int .i64 0, .int .i64 0] 44
          generalize w_19.alloc (.cells #[.int .i64 0, .int .i64 0, .int .i64 0, .int .i64 0, .int .i64 0] 44) = w_20 at *
          have Z20_5 := Lib.hid zz
          have F20_5 := Lib.hid (fun j (hj : j < 5) => ff j)
          have SZ5 := Lib.hid hB.size
          have NE := Lib.hid (Nat.ne_of_lt (World.block_lt_of_cell? _ _ (Z19_4.out 0 (by omega))))
          have Z20_4 := Lib.hid (Z19_4.out.step g20)
          have F20_4 := Lib.hid (fun j (hj : j < 5) => frozen_step g20 (Z19_4.out j hj) (F19_4.out j hj))
          clear zz ff
          have BB20 := Lib.hid (below_step BB19.out g20)
          refine hK.out _ _ ⟨cell_step g20 h0, cell_step g20 h1, cell_step g20 h2, cell_step g20 h3, cell_step g20 h4, cell_step g20 h5, cell_step g20 h6, cell_step g20 h7, cell_step g20 h8, cell_step g20 h9, below_step hB g20⟩ (fun hHeld => ?_)
          clear hK K h0 h1 h2 h3 h4 h5 h6 h7 h8 h9 hB g20
          try simp only [Act.put, List.setIfInBounds_toArray, List.set_cons_zero, List.set_cons_succ, List.getElem_toArray, List.getElem_cons_zero, List.getElem_cons_succ]
          have FF := Lib.hid (And.intro NE.out (And.intro SZ4.out (And.intro SZ5.out (And.intro Z20_4.out (And.intro F20_4.out (And.intro Z20_5.out (And.intro F20_5.out (And.intro BB20.out hHeld))))))))
          exact TAIL.out _ _ _ FF
        refine AllReadyH.cons rfl (fun K hK => ?_) AllReadyH.nil
        try simp only [Act.put, List.setIfInBounds_toArray, List.set_cons_zero, List.set_cons_succ, List.getElem_toArray, List.getElem_cons_zero, List.getElem_cons_succ]
        go_simp
        obtain ⟨h0, h1, h2, h3, h4, h5, h6, h7, h8, h9, hB⟩ := hHeld
        have g21 := (Below.refl w_18.heap.size w_18).alloc (Nat.le_refl _) (.cells #[.int .i64 0, .int .i64 0, .int .i64 0, .int .i64 0, .int .i64 0] 44)
        have zz := Row5.zero w_18 44
        have ff := World.frozen?_alloc_new w_18 #[.int .i64 0, .int .i64 0, .int .i64 0, .int .i64 0, .int .i64 0] 44
        generalize w_18.alloc (.cells #[.int .i64 0, .int .i64 0, .int .i64 0, .int .i64 0, .int .i64 0] 44) = w_21 at *
        have Z21_5 := Lib.hid zz
        have F21_5 := Lib.hid (fun j (hj : j < 5) => ff j)
        have SZ5 := Lib.hid hB.size
        have NE := Lib.hid (Nat.ne_of_lt (World.block_lt_of_cell? _ _ (Z18_4.out 0 (by omega))))
        have Z21_4 := Lib.hid (Z18_4.out.step g21)
        have F21_4 := Lib.hid (fun j (hj : j < 5) => frozen_step g21 (Z18_4.out j hj) (F18_4.out j hj))
        clear zz ff
        have BB21 := Lib.hid (below_step BB18.out g21)
        refine hK.out _ _ ⟨cell_step g21 h0, cell_step g21 h1, cell_step g21 h2, cell_step g21 h3, cell_step g21 h4, cell_step g21 h5, cell_step g21 h6, cell_step g21 h7, cell_step g21 h8, cell_step g21 h9, below_step hB g21⟩ (fun hHeld => ?_)
        clear hK K h0 h1 h2 h3 h4 h5 h6 h7 h8 h9 hB g21
        try simp only [Act.put, List.setIfInBounds_toArray, List.set_cons_zero, List.set_cons_succ, List.getElem_toArray, List.getElem_cons_zero, List.getElem_cons_succ]
        refine wpAnyH_ready (rs := [3]) (by kernel_rfl) (by simp) ?_
        refine AllReadyH.cons rfl (fun K hK => ?_) AllReadyH.nil
        try simp only [Act.put, List.setIfInBounds_toArray, List.set_cons_zero, List.set_cons_succ, List.getElem_toArray, List.getElem_cons_zero, List.getElem_cons_succ]
        go_simp
        go_at_call 25
        obtain ⟨h0, h1, h2, h3, h4, h5, h6, h7, h8, h9, hB⟩ := hHeld
        refine (parts_any p q r s t _).mono ?_
        rintro e w_22 ⟨rfl, g22⟩
        go_wp2_with fail
        have Z22_4 := Lib.hid (Z21_4.out.step g22)
        have F22_4 := Lib.hid (fun j (hj : j < 5) => frozen_step g22 (Z21_4.out j hj) (F21_4.out j hj))
        have Z22_5 := Lib.hid (Z21_5.out.step g22)
        have F22_5 := Lib.hid (fun j (hj : j < 5) => frozen_step g22 (Z21_5.out j hj) (F21_5.out j hj))
        have BB22 := Lib.hid (below_step BB21.out g22)
        refine hK.out _ _ ⟨cell_step g22 h0, cell_step g22 h1, cell_step g22 h2, cell_step g22 h3, cell_step g22 h4, cell_step g22 h5, cell_step g22 h6, cell_step g22 h7, cell_step g22 h8, cell_step g22 h9, below_step hB g22⟩ (fun hHeld => ?_)
        clear hK K h0 h1 h2 h3 h4 h5 h6 h7 h8 h9 hB g22
        try simp only [Act.put, List.setIfInBounds_toArray, List.set_cons_zero, List.set_cons_succ, List.getElem_toArray, List.getElem_cons_zero, List.getElem_cons_succ]
        have FF := Lib.hid (And.intro NE.out (And.intro SZ4.out (And.intro SZ5.out (And.intro Z22_4.out (And.intro F22_4.out (And.intro Z22_5.out (And.intro F22_5.out (And.intro BB22.out hHeld))))))))
        exact TAIL.out _ _ _ FF
      refine AllReadyH.cons rfl (fun K hK => ?_) AllReadyH.nil
      try simp only [Act.put, List.setIfInBounds_toArray, List.set_cons_zero, List.set_cons_succ, List.getElem_toArray, List.getElem_cons_zero, List.getElem_cons_succ]
      go_simp
      obtain ⟨h0, h1, h2, h3, h4, h5, h6, h7, h8, h9, hB⟩ := hHeld
      have g23 := (Below.refl w_17.heap.size w_17).alloc (Nat.le_refl _) (.cells #[.int .i64 0, .int .i64 0, .int .i64 0, .int .i64 0, .int .i64 0] 44)
      have zz := Row5.zero w_17 44
      have ff := World.frozen?_alloc_new w_17 #[.int .i64 0, .int .i64 0, .int .i64 0, .int .i64 0, .int .i64 0] 44
      generalize w_17.alloc (.cells #[.int .i64 0, .int .i64 0, .int .i64 0, .int .i64 0, .int .i64 0] 44) = w_23 at *
      have Z23_5 := Lib.hid zz
      have F23_5 := Lib.hid (fun j (hj : j < 5) => ff j)
      have SZ5 := Lib.hid hB.size
      have NE := Lib.hid (Nat.ne_of_lt (World.block_lt_of_cell? _ _ (Z17_4.out 0 (by omega))))
      have Z23_4 := Lib.hid (Z17_4.out.step g23)
      have F23_4 := Lib.hid (fun j (hj : j < 5) => frozen_step g23 (Z17_4.out j hj) (F17_4.out j hj))
      clear zz ff
      have BB23 := Lib.hid (below_step BB17.out g23)
      refine hK.out _ _ ⟨cell_step g23 h0, cell_step g23 h1, cell_step g23 h2, cell_step g23 h3, cell_step g23 h4, cell_step g23 h5, cell_step g23 h6, cell_step g23 h7, cell_step g23 h8, cell_step g23 h9, below_step hB g23⟩ (fun hHeld => ?_)
      clear hK K h0 h1 h2 h3 h4 h5 h6 h7 h8 h9 hB g23
      try simp only [Act.put, List.setIfInBounds_toArray, List.set_cons_zero, List.set_cons_succ, List.getElem_toArray, List.getElem_cons_zero, List.getElem_cons_succ]
      refine wpAnyH_ready (rs := [1]) (by kernel_rfl) (by simp) ?_
      refine AllReadyH.cons rfl (fun K hK => ?_) AllReadyH.nil
      try simp only [Act.put, List.setIfInBounds_toArray, List.set_cons_zero, List.set_cons_succ, List.getElem_toArray, List.getElem_cons_zero, List.getElem_cons_succ]
      go_simp
      go_at_call 25
      obtain ⟨h0, h1, h2, h3, h4, h5, h6, h7, h8, h9, hB⟩ := hHeld
      refine (parts_any a b c d e_ _).mono ?_
      rintro e w_24 ⟨rfl, g24⟩
      go_wp2_with fail
      have Z24_4 := Lib.hid (Z23_4.out.step g24)
      have F24_4 := Lib.hid (fun j (hj : j < 5) => frozen_step g24 (Z23_4.out j hj) (F23_4.out j hj))
      have Z24_5 := Lib.hid (Z23_5.out.step g24)
      have F24_5 := Lib.hid (fun j (hj : j < 5) => frozen_step g24 (Z23_5.out j hj) (F23_5.out j hj))
      have BB24 := Lib.hid (below_step BB23.out g24)
      refine hK.out _ _ ⟨cell_step g24 h0, cell_step g24 h1, cell_step g24 h2, cell_step g24 h3, cell_step g24 h4, cell_step g24 h5, cell_step g24 h6, cell_step g24 h7, cell_step g24 h8, cell_step g24 h9, below_step hB g24⟩ (fun hHeld => ?_)
      clear hK K h0 h1 h2 h3 h4 h5 h6 h7 h8 h9 hB g24
      try simp only [Act.put, List.setIfInBounds_toArray, List.set_cons_zero, List.set_cons_succ, List.getElem_toArray, List.getElem_cons_zero, List.getElem_cons_succ]
      refine wpAnyH_ready (rs := [3]) (by kernel_rfl) (by simp) ?_
      refine AllReadyH.cons rfl (fun K hK => ?_) AllReadyH.nil
      try simp only [Act.put, List.setIfInBounds_toArray, List.set_cons_zero, List.set_cons_succ, List.getElem_toArray, List.getElem_cons_zero, List.getElem_cons_succ]
      go_simp
      go_at_call 25
      obtain ⟨h0, h1, h2, h3, h4, h5, h6, h7, h8, h9, hB⟩ := hHeld
      refine (parts_any p q r s t _).mono ?_
      rintro e w_25 ⟨rfl, g25⟩
      go_wp2_with fail
      have Z25_4 := Lib.hid (Z24_4.out.step g25)
      have F25_4 := Lib.hid (fun j (hj : j < 5) => frozen_step g25 (Z24_4.out j hj) (F24_4.out j hj))
      have Z25_5 := Lib.hid (Z24_5.out.step g25)
      have F25_5 := Lib.hid (fun j (hj : j < 5) => frozen_step g25 (Z24_5.out j hj) (F24_5.out j hj))
      have BB25 := Lib.hid (below_step BB24.out g25)
      refine hK.out _ _ ⟨cell_step g25 h0, cell_step g25 h1, cell_step g25 h2, cell_step g25 h3, cell_step g25 h4, cell_step g25 h5, cell_step g25 h6, cell_step g25 h7, cell_step g25 h8, cell_step g25 h9, below_step hB g25⟩ (fun hHeld => ?_)
      clear hK K h0 h1 h2 h3 h4 h5 h6 h7 h8 h9 hB g25
      try simp only [Act.put, List.setIfInBounds_toArray, List.set_cons_zero, List.set_cons_succ, List.getElem_toArray, List.getElem_cons_zero, List.getElem_cons_succ]
      have FF := Lib.hid (And.intro NE.out (And.intro SZ4.out (And.intro SZ5.out (And.intro Z25_4.out (And.intro F25_4.out (And.intro Z25_5.out (And.intro F25_5.out (And.intro BB25.out hHeld))))))))
      exact TAIL.out _ _ _ FF
    refine AllReadyH.cons rfl (fun K hK => ?_) AllReadyH.nil
    try simp only [Act.put, List.setIfInBounds_toArray, List.set_cons_zero, List.set_cons_succ, List.getElem_toArray, List.getElem_cons_zero, List.getElem_cons_succ]
    go_simp
    obtain ⟨h0, h1, h2, h3, h4, h5, h6, h7, h8, h9, hB⟩ := hHeld
    have g26 := (Below.refl Wd.heap.size Wd).alloc (Nat.le_refl _) (.cells #[.int .i64 0, .int .i64 0, .int .i64 0, .int .i64 0, .int .i64 0] 44)
    have zz := Row5.zero Wd 44
    have ff := World.frozen?_alloc_new Wd #[.int .i64 0, .int .i64 0, .int .i64 0, .int .i64 0, .int .i64 0] 44
    generalize Wd.alloc (.cells #[.int .i64 0, .int .i64 0, .int .i64 0, .int .i64 0, .int .i64 0] 44) = w_26 at *
    have Z26_5 := Lib.hid zz
    have F26_5 := Lib.hid (fun j (hj : j < 5) => ff j)
    have SZ5 := Lib.hid hB.size
    clear zz ff
    have BB26 := Lib.hid (below_step BB0.out g26)
    refine hK.out _ _ ⟨cell_step g26 h0, cell_step g26 h1, cell_step g26 h2, cell_step g26 h3, cell_step g26 h4, cell_step g26 h5, cell_step g26 h6, cell_step g26 h7, cell_step g26 h8, cell_step g26 h9, below_step hB g26⟩ (fun hHeld => ?_)
    clear hK K h0 h1 h2 h3 h4 h5 h6 h7 h8 h9 hB g26
    try simp only [Act.put, List.setIfInBounds_toArray, List.set_cons_zero, List.set_cons_succ, List.getElem_toArray, List.getElem_cons_zero, List.getElem_cons_succ]
    refine wpAnyH_ready (rs := [1, 4]) (by kernel_rfl) (by simp) ?_
    refine AllReadyH.cons rfl (fun K hK => ?_) ?_
    · skip
      try simp only [Act.put, List.setIfInBounds_toArray, List.set_cons_zero, List.set_cons_succ, List.getElem_toArray, List.getElem_cons_zero, List.getElem_cons_succ]
      go_simp
      go_at_call 25
      obtain ⟨h0, h1, h2, h3, h4, h5, h6, h7, h8, h9, hB⟩ := hHeld
      refine (parts_any a b c d e_ _).mono ?_
      rintro e w_27 ⟨rfl, g27⟩
      go_wp2_with fail
      have Z27_5 := Lib.hid (Z26_5.out.step g27)
      have F27_5 := Lib.hid (fun j (hj : j < 5) => frozen_step g27 (Z26_5.out j hj) (F26_5.out j hj))
      have BB27 := Lib.hid (below_step BB26.out g27)
      refine hK.out _ _ ⟨cell_step g27 h0, cell_step g27 h1, cell_step g27 h2, cell_step g27 h3, cell_step g27 h4, cell_step g27 h5, cell_step g27 h6, cell_step g27 h7, cell_step g27 h8, cell_step g27 h9, below_step hB g27⟩ (fun hHeld => ?_)
      clear hK K h0 h1 h2 h3 h4 h5 h6 h7 h8 h9 hB g27
      try simp only [Act.put, List.setIfInBounds_toArray, List.set_cons_zero, List.set_cons_succ, List.getElem_toArray, List.getElem_cons_zero, List.getElem_cons_succ]
      refine wpAnyH_ready (rs := [3, 4]) (by kernel_rfl) (by simp) ?_
      refine AllReadyH.cons rfl (fun K hK => ?_) ?_
      · skip
        try simp only [Act.put, List.setIfInBounds_toArray, List.set_cons_zero, List.set_cons_succ, List.getElem_toArray, List.getElem_cons_zero, List.getElem_cons_succ]
        go_simp
        go_at_call 25
        obtain ⟨h0, h1, h2, h3, h4, h5, h6, h7, h8, h9, hB⟩ := hHeld
        refine (parts_any p q r s t _).mono ?_
        rintro e w_28 ⟨rfl, g28⟩
        go_wp2_with fail
        have Z28_5 := Lib.hid (Z27_5.out.step g28)
        have F28_5 := Lib.hid (fun j (hj : j < 5) => frozen_step g28 (Z27_5.out j hj) (F27_5.out j hj))
        have BB28 := Lib.hid (below_step BB27.out g28)
        refine hK.out _ _ ⟨cell_step g28 h0, cell_step g28 h1, cell_step g28 h2, cell_step g28 h3, cell_step g28 h4, cell_step g28 h5, cell_step g28 h6, cell_step g28 h7, cell_step g28 h8, cell_step g28 h9, below_step hB g28⟩ (fun hHeld => ?_)
        clear hK K h0 h1 h2 h3 h4 h5 h6 h7 h8 h9 hB g28
        try simp only [Act.put, List.setIfInBounds_toArray, List.set_cons_zero, List.set_cons_succ, List.getElem_toArray, List.getElem_cons_zero, List.getElem_cons_succ]
        refine wpAnyH_ready (rs := [4]) (by kernel_rfl) (by simp) ?_
        refine AllReadyH.cons rfl (fun K hK => ?_) AllReadyH.nil
        try simp only [Act.put, List.setIfInBounds_toArray, List.set_cons_zero, List.set_cons_succ, List.getElem_toArray, List.getElem_cons_zero, List.getElem_cons_succ]
        go_simp
        obtain ⟨h0, h1, h2, h3, h4, h5, h6, h7, h8, h9, hB⟩ := hHeld
        have g29 := (Below.refl w_28.heap.size w_28).alloc (Nat.le_refl _) (.cells #[.int .i64 0, .int .i64 0, .int .i64 0, .int .i64 0, .int .i64 0] 44)
        have zz := Row5.zero w_28 44
        have ff := World.frozen?_alloc_new w_28 #[.int .i64 0, .int .i64 0, .int .i64 0, .int .i64 0, .int .i64 0] 44
        generalize w_28.alloc (.cells #[.int .i64 0, .int .i64 0, .int .i64 0, .int .i64 0, .int .i64 0] 44) = w_29 at *
        have Z29_4 := Lib.hid zz
        have F29_4 := Lib.hid (fun j (hj : j < 5) => ff j)
        have SZ4 := Lib.hid hB.size
        have NE := Lib.hid (Nat.ne_of_lt (World.block_lt_of_cell? _ _ (Z28_5.out 0 (by omega))))
        have Z29_5 := Lib.hid (Z28_5.out.step g29)
        have F29_5 := Lib.hid (fun j (hj : j < 5) => frozen_step g29 (Z28_5.out j hj) (F28_5.out j hj))
        clear zz ff
        have BB29 := Lib.hid (below_step BB28.out g29)
        refine hK.out _ _ ⟨cell_step g29 h0, cell_step g29 h1, cell_step g29 h2, cell_step g29 h3, cell_step g29 h4, cell_step g29 h5, cell_step g29 h6, cell_step g29 h7, cell_step g29 h8, cell_step g29 h9, below_step hB g29⟩ (fun hHeld => ?_)
        clear hK K h0 h1 h2 h3 h4 h5 h6 h7 h8 h9 hB g29
        try simp only [Act.put, List.setIfInBounds_toArray, List.set_cons_zero, List.set_cons_succ, List.getElem_toArray, List.getElem_cons_zero, List.getElem_cons_succ]
        have FF := Lib.hid (And.intro NE.out.symm (And.intro SZ4.out (And.intro SZ5.out (And.intro Z29_4.out (And.intro F29_4.out (And.intro Z29_5.out (And.intro F29_5.out (And.intro BB29.out hHeld))))))))
        exact TAIL.out _ _ _ FF
      refine AllReadyH.cons rfl (fun K hK => ?_) AllReadyH.nil
      try simp only [Act.put, List.setIfInBounds_toArray, List.set_cons_zero, List.set_cons_succ, List.getElem_toArray, List.getElem_cons_zero, List.getElem_cons_succ]
      go_simp
      obtain ⟨h0, h1, h2, h3, h4, h5, h6, h7, h8, h9, hB⟩ := hHeld
      have g30 := (Below.refl w_27.heap.size w_27).alloc (Nat.le_refl _) (.cells #[.int .i64 0, .int .i64 0, .int .i64 0, .int .i64 0, .int .i64 0] 44)
      have zz := Row5.zero w_27 44
      have ff := World.frozen?_alloc_new w_27 #[.int .i64 0, .int .i64 0, .int .i64 0, .int .i64 0, .int .i64 0] 44
      generalize w_27.alloc (.cells #[.int .i64 0, .int .i64 0, .int .i64 0, .int .i64 0, .int .i64 0] 44) = w_30 at *
      have Z30_4 := Lib.hid zz
      have F30_4 := Lib.hid (fun j (hj : j < 5) => ff j)
      have SZ4 := Lib.hid hB.size
      have NE := Lib.hid (Nat.ne_of_lt (World.block_lt_of_cell? _ _ (Z27_5.out 0 (by omega))))
      have Z30_5 := Lib.hid (Z27_5.out.step g30)
      have F30_5 := Lib.hid (fun j (hj : j < 5) => frozen_step g30 (Z27_5.out j hj) (F27_5.out j hj))
      clear zz ff
      have BB30 := Lib.hid (below_step BB27.out g30)
      refine hK.out _ _ ⟨cell_step g30 h0, cell_step g30 h1, cell_step g30 h2, cell_step g30 h3, cell_step g30 h4, cell_step g30 h5, cell_step g30 h6, cell_step g30 h7, cell_step g30 h8, cell_step g30 h9, below_step hB g30⟩ (fun hHeld => ?_)
      clear hK K h0 h1 h2 h3 h4 h5 h6 h7 h8 h9 hB g30
      try simp only [Act.put, List.setIfInBounds_toArray, List.set_cons_zero, List.set_cons_succ, List.getElem_toArray, List.getElem_cons_zero, List.getElem_cons_succ]
      refine wpAnyH_ready (rs := [3]) (by kernel_rfl) (by simp) ?_
      refine AllReadyH.cons rfl (fun K hK => ?_) AllReadyH.nil
      try simp only [Act.put, List.setIfInBounds_toArray, List.set_cons_zero, List.set_cons_succ, List.getElem_toArray, List.getElem_cons_zero, List.getElem_cons_succ]
      go_simp
      go_at_call 25
      obtain ⟨h0, h1, h2, h3, h4, h5, h6, h7, h8, h9, hB⟩ := hHeld
      refine (parts_any p q r s t _).mono ?_
      rintro e w_31 ⟨rfl, g31⟩
      go_wp2_with fail
      have Z31_5 := Lib.hid (Z30_5.out.step g31)
      have F31_5 := Lib.hid (fun j (hj : j < 5) => frozen_step g31 (Z30_5.out j hj) (F30_5.out j hj))
      have Z31_4 := Lib.hid (Z30_4.out.step g31)
      have F31_4 := Lib.hid (fun j (hj : j < 5) => frozen_step g31 (Z30_4.out j hj) (F30_4.out j hj))
      have BB31 := Lib.hid (below_step BB30.out g31)
      refine hK.out _ _ ⟨cell_step g31 h0, cell_step g31 h1, cell_step g31 h2, cell_step g31 h3, cell_step g31 h4, cell_step g31 h5, cell_step g31 h6, cell_step g31 h7, cell_step g31 h8, cell_step g31 h9, below_step hB g31⟩ (fun hHeld => ?_)
      clear hK K h0 h1 h2 h3 h4 h5 h6 h7 h8 h9 hB g31
      try simp only [Act.put, List.setIfInBounds_toArray, List.set_cons_zero, List.set_cons_succ, List.getElem_toArray, List.getElem_cons_zero, List.getElem_cons_succ]
      have FF := Lib.hid (And.intro NE.out.symm (And.intro SZ4.out (And.intro SZ5.out (And.intro Z31_4.out (And.intro F31_4.out (And.intro Z31_5.out (And.intro F31_5.out (And.intro BB31.out hHeld))))))))
      exact TAIL.out _ _ _ FF
    refine AllReadyH.cons rfl (fun K hK => ?_) AllReadyH.nil
    try simp only [Act.put, List.setIfInBounds_toArray, List.set_cons_zero, List.set_cons_succ, List.getElem_toArray, List.getElem_cons_zero, List.getElem_cons_succ]
    go_simp
    obtain ⟨h0, h1, h2, h3, h4, h5, h6, h7, h8, h9, hB⟩ := hHeld
    have g32 := (Below.refl w_26.heap.size w_26).alloc (Nat.le_refl _) (.cells #[.int .i64 0, .int .i64 0, .int .i64 0, .int .i64 0, .int .i64 0] 44)
    have zz := Row5.zero w_26 44
    have ff := World.frozen?_alloc_new w_26 #[.int .i64 0, .int .i64 0, .int .i64 0, .int .i64 0, .int .i64 0] 44
    generalize w_26.alloc (.cells #[.int .i64 0, .int .i64 0, .int .i64 0, .int .i64 0, .int .i64 0] 44) = w_32 at *
    have Z32_4 := Lib.hid zz
    have F32_4 := Lib.hid (fun j (hj : j < 5) => ff j)
    have SZ4 := Lib.hid hB.size
    have NE := Lib.hid (Nat.ne_of_lt (World.block_lt_of_cell? _ _ (Z26_5.out 0 (by omega))))
    have Z32_5 := Lib.hid (Z26_5.out.step g32)
    have F32_5 := Lib.hid (fun j (hj : j < 5) => frozen_step g32 (Z26_5.out j hj) (F26_5.out j hj))
    clear zz ff
    have BB32 := Lib.hid (below_step BB26.out g32)
    refine hK.out _ _ ⟨cell_step g32 h0, cell_step g32 h1, cell_step g32 h2, cell_step g32 h3, cell_step g32 h4, cell_step g32 h5, cell_step g32 h6, cell_step g32 h7, cell_step g32 h8, cell_step g32 h9, below_step hB g32⟩ (fun hHeld => ?_)
    clear hK K h0 h1 h2 h3 h4 h5 h6 h7 h8 h9 hB g32
    try simp only [Act.put, List.setIfInBounds_toArray, List.set_cons_zero, List.set_cons_succ, List.getElem_toArray, List.getElem_cons_zero, List.getElem_cons_succ]
    refine wpAnyH_ready (rs := [1]) (by kernel_rfl) (by simp) ?_
    refine AllReadyH.cons rfl (fun K hK => ?_) AllReadyH.nil
    try simp only [Act.put, List.setIfInBounds_toArray, List.set_cons_zero, List.set_cons_succ, List.getElem_toArray, List.getElem_cons_zero, List.getElem_cons_succ]
    go_simp
    go_at_call 25
    obtain ⟨h0, h1, h2, h3, h4, h5, h6, h7, h8, h9, hB⟩ := hHeld
    refine (parts_any a b c d e_ _).mono ?_
    rintro e w_33 ⟨rfl, g33⟩
    go_wp2_with fail
    have Z33_5 := Lib.hid (Z32_5.out.step g33)
    have F33_5 := Lib.hid (fun j (hj : j < 5) => frozen_step g33 (Z32_5.out j hj) (F32_5.out j hj))
    have Z33_4 := Lib.hid (Z32_4.out.step g33)
    have F33_4 := Lib.hid (fun j (hj : j < 5) => frozen_step g33 (Z32_4.out j hj) (F32_4.out j hj))
    have BB33 := Lib.hid (below_step BB32.out g33)
    refine hK.out _ _ ⟨cell_step g33 h0, cell_step g33 h1, cell_step g33 h2, cell_step g33 h3, cell_step g33 h4, cell_step g33 h5, cell_step g33 h6, cell_step g33 h7, cell_step g33 h8, cell_step g33 h9, below_step hB g33⟩ (fun hHeld => ?_)
    clear hK K h0 h1 h2 h3 h4 h5 h6 h7 h8 h9 hB g33
    try simp only [Act.put, List.setIfInBounds_toArray, List.set_cons_zero, List.set_cons_succ, List.getElem_toArray, List.getElem_cons_zero, List.getElem_cons_succ]
    refine wpAnyH_ready (rs := [3]) (by kernel_rfl) (by simp) ?_
    refine AllReadyH.cons rfl (fun K hK => ?_) AllReadyH.nil
    try simp only [Act.put, List.setIfInBounds_toArray, List.set_cons_zero, List.set_cons_succ, List.getElem_toArray, List.getElem_cons_zero, List.getElem_cons_succ]
    go_simp
    go_at_call 25
    obtain ⟨h0, h1, h2, h3, h4, h5, h6, h7, h8, h9, hB⟩ := hHeld
    refine (parts_any p q r s t _).mono ?_
    rintro e w_34 ⟨rfl, g34⟩
    go_wp2_with fail
    have Z34_5 := Lib.hid (Z33_5.out.step g34)
    have F34_5 := Lib.hid (fun j (hj : j < 5) => frozen_step g34 (Z33_5.out j hj) (F33_5.out j hj))
    have Z34_4 := Lib.hid (Z33_4.out.step g34)
    have F34_4 := Lib.hid (fun j (hj : j < 5) => frozen_step g34 (Z33_4.out j hj) (F33_4.out j hj))
    have BB34 := Lib.hid (below_step BB33.out g34)
    refine hK.out _ _ ⟨cell_step g34 h0, cell_step g34 h1, cell_step g34 h2, cell_step g34 h3, cell_step g34 h4, cell_step g34 h5, cell_step g34 h6, cell_step g34 h7, cell_step g34 h8, cell_step g34 h9, below_step hB g34⟩ (fun hHeld => ?_)
    clear hK K h0 h1 h2 h3 h4 h5 h6 h7 h8 h9 hB g34
    try simp only [Act.put, List.setIfInBounds_toArray, List.set_cons_zero, List.set_cons_succ, List.getElem_toArray, List.getElem_cons_zero, List.getElem_cons_succ]
    have FF := Lib.hid (And.intro NE.out.symm (And.intro SZ4.out (And.intro SZ5.out (And.intro Z34_4.out (And.intro F34_4.out (And.intro Z34_5.out (And.intro F34_5.out (And.intro BB34.out hHeld))))))))
    exact TAIL.out _ _ _ FF
  case tail =>
    intro ga gb wz FF
    obtain ⟨hne, hza, hzb, fa, ka, fb, kb, hBz, hHeld⟩ := FF.out
    clear FF HH0
    have sA0 := fa 0 (by omega)
    have sA1 := fa 1 (by omega)
    have sA2 := fa 2 (by omega)
    have sA3 := fa 3 (by omega)
    have sA4 := fa 4 (by omega)
    have zA0 := ka 0 (by omega)
    have zA1 := ka 1 (by omega)
    have zA2 := ka 2 (by omega)
    have zA3 := ka 3 (by omega)
    have zA4 := ka 4 (by omega)
    simp only [List.getElem?_cons_zero, List.getElem?_cons_succ, Option.getD_some] at sA0 sA1 sA2 sA3 sA4
    refine wpAnyH_ready (rs := [6]) (by kernel_rfl) (by simp) ?_
    refine AllReadyH.cons rfl (fun K hK => ?_) AllReadyH.nil
    simp only [List.getElem_toArray, List.getElem_cons_zero, List.getElem_cons_succ]
    go_simp
    have RA := set5_row a b c d e_ fa
    have GA := set5_grown wz ga a b c d e_
    have OA := fb.other GA hne.symm
    have EA := fun j (hj : j < 5) => (grown_frozen (o := j) GA (World.block_lt_of_cell? _ _ (fb j hj)) hne.symm).trans (kb j hj)
    have SA := set5_below (a := a) (b := b) (c := c) (d := d) (e_ := e_) (Below.refl W0.heap.size wz) hza
    have TA := set5_below (a := a) (b := b) (c := c) (d := d) (e_ := e_) hBz (show w.heap.size ≤ ga by have := hza; have := HZ0.out; omega)
    obtain ⟨h0, h1, h2, h3, h4, h5, h6, h7, h8, h9, hB⟩ := hHeld
    have SSA : (fun w' : World => w'.cell? ⟨w.heap.size, 0, none⟩ = some (.int .i64 a) ∧ w'.cell? ⟨w.heap.size, 1, none⟩ = some (.int .i64 b) ∧ w'.cell? ⟨w.heap.size, 2, none⟩ = some (.int .i64 c) ∧ w'.cell? ⟨w.heap.size, 3, none⟩ = some (.int .i64 d) ∧ w'.cell? ⟨w.heap.size, 4, none⟩ = some (.int .i64 e_) ∧ w'.cell? ⟨w.heap.size + 1, 0, none⟩ = some (.int .i64 p) ∧ w'.cell? ⟨w.heap.size + 1, 1, none⟩ = some (.int .i64 q) ∧ w'.cell? ⟨w.heap.size + 1, 2, none⟩ = some (.int .i64 r) ∧ w'.cell? ⟨w.heap.size + 1, 3, none⟩ = some (.int .i64 s) ∧ w'.cell? ⟨w.heap.size + 1, 4, none⟩ = some (.int .i64 t) ∧ Below W0.heap.size W0 w') (set5 wz ga a b c d e_) := ⟨(SA.cell (p := ⟨w.heap.size, 0, none⟩) (show w.heap.size < W0.heap.size by have := HZ0.out; omega)).trans h0, (SA.cell (p := ⟨w.heap.size, 1, none⟩) (show w.heap.size < W0.heap.size by have := HZ0.out; omega)).trans h1, (SA.cell (p := ⟨w.heap.size, 2, none⟩) (show w.heap.size < W0.heap.size by have := HZ0.out; omega)).trans h2, (SA.cell (p := ⟨w.heap.size, 3, none⟩) (show w.heap.size < W0.heap.size by have := HZ0.out; omega)).trans h3, (SA.cell (p := ⟨w.heap.size, 4, none⟩) (show w.heap.size < W0.heap.size by have := HZ0.out; omega)).trans h4, (SA.cell (p := ⟨w.heap.size + 1, 0, none⟩) (show w.heap.size + 1 < W0.heap.size by have := HZ0.out; omega)).trans h5, (SA.cell (p := ⟨w.heap.size + 1, 1, none⟩) (show w.heap.size + 1 < W0.heap.size by have := HZ0.out; omega)).trans h6, (SA.cell (p := ⟨w.heap.size + 1, 2, none⟩) (show w.heap.size + 1 < W0.heap.size by have := HZ0.out; omega)).trans h7, (SA.cell (p := ⟨w.heap.size + 1, 3, none⟩) (show w.heap.size + 1 < W0.heap.size by have := HZ0.out; omega)).trans h8, (SA.cell (p := ⟨w.heap.size + 1, 4, none⟩) (show w.heap.size + 1 < W0.heap.size by have := HZ0.out; omega)).trans h9, hB.trans SA⟩
    clear h0 h1 h2 h3 h4 h5 h6 h7 h8 h9 hB SA GA sA0 zA0 sA1 zA1 sA2 zA2 sA3 zA3 sA4 zA4 hBz fa ka fb kb
    have hBA := Lib.hid TA
    have RA := Lib.hid RA
    have OA := Lib.hid OA
    have EA := Lib.hid EA
    have SSA := Lib.hid SSA
    clear TA
    change K _ (set5 wz ga a b c d e_)
    generalize set5 wz ga a b c d e_ = wy at *
    refine hK.out _ _ SSA.out (fun hHeld => ?_)
    clear hK K SSA
    try simp only [Act.put, List.setIfInBounds_toArray, List.set_cons_zero, List.set_cons_succ, List.getElem_toArray, List.getElem_cons_zero, List.getElem_cons_succ]
    have fb := OA.out
    have kb := EA.out
    have hBz := hBA.out
    have fa := RA.out
    clear OA EA hBA RA
    have sB0 := fb 0 (by omega)
    have sB1 := fb 1 (by omega)
    have sB2 := fb 2 (by omega)
    have sB3 := fb 3 (by omega)
    have sB4 := fb 4 (by omega)
    have zB0 := kb 0 (by omega)
    have zB1 := kb 1 (by omega)
    have zB2 := kb 2 (by omega)
    have zB3 := kb 3 (by omega)
    have zB4 := kb 4 (by omega)
    simp only [List.getElem?_cons_zero, List.getElem?_cons_succ, Option.getD_some] at sB0 sB1 sB2 sB3 sB4
    refine wpAnyH_ready (rs := [7]) (by kernel_rfl) (by simp) ?_
    refine AllReadyH.cons rfl (fun K hK => ?_) AllReadyH.nil
    simp only [List.getElem_toArray, List.getElem_cons_zero, List.getElem_cons_succ]
    go_simp
    have RB := set5_row p q r s t fb
    have GB := set5_grown wy gb p q r s t
    have OB := fa.other GB hne
    have SB := set5_below (a := p) (b := q) (c := r) (d := s) (e_ := t) (Below.refl W0.heap.size wy) hzb
    have TB := set5_below (a := p) (b := q) (c := r) (d := s) (e_ := t) hBz (show w.heap.size ≤ gb by have := hzb; have := HZ0.out; omega)
    obtain ⟨h0, h1, h2, h3, h4, h5, h6, h7, h8, h9, hB⟩ := hHeld
    have SSB : (fun w' : World => w'.cell? ⟨w.heap.size, 0, none⟩ = some (.int .i64 a) ∧ w'.cell? ⟨w.heap.size, 1, none⟩ = some (.int .i64 b) ∧ w'.cell? ⟨w.heap.size, 2, none⟩ = some (.int .i64 c) ∧ w'.cell? ⟨w.heap.size, 3, none⟩ = some (.int .i64 d) ∧ w'.cell? ⟨w.heap.size, 4, none⟩ = some (.int .i64 e_) ∧ w'.cell? ⟨w.heap.size + 1, 0, none⟩ = some (.int .i64 p) ∧ w'.cell? ⟨w.heap.size + 1, 1, none⟩ = some (.int .i64 q) ∧ w'.cell? ⟨w.heap.size + 1, 2, none⟩ = some (.int .i64 r) ∧ w'.cell? ⟨w.heap.size + 1, 3, none⟩ = some (.int .i64 s) ∧ w'.cell? ⟨w.heap.size + 1, 4, none⟩ = some (.int .i64 t) ∧ Below W0.heap.size W0 w') (set5 wy gb p q r s t) := ⟨(SB.cell (p := ⟨w.heap.size, 0, none⟩) (show w.heap.size < W0.heap.size by have := HZ0.out; omega)).trans h0, (SB.cell (p := ⟨w.heap.size, 1, none⟩) (show w.heap.size < W0.heap.size by have := HZ0.out; omega)).trans h1, (SB.cell (p := ⟨w.heap.size, 2, none⟩) (show w.heap.size < W0.heap.size by have := HZ0.out; omega)).trans h2, (SB.cell (p := ⟨w.heap.size, 3, none⟩) (show w.heap.size < W0.heap.size by have := HZ0.out; omega)).trans h3, (SB.cell (p := ⟨w.heap.size, 4, none⟩) (show w.heap.size < W0.heap.size by have := HZ0.out; omega)).trans h4, (SB.cell (p := ⟨w.heap.size + 1, 0, none⟩) (show w.heap.size + 1 < W0.heap.size by have := HZ0.out; omega)).trans h5, (SB.cell (p := ⟨w.heap.size + 1, 1, none⟩) (show w.heap.size + 1 < W0.heap.size by have := HZ0.out; omega)).trans h6, (SB.cell (p := ⟨w.heap.size + 1, 2, none⟩) (show w.heap.size + 1 < W0.heap.size by have := HZ0.out; omega)).trans h7, (SB.cell (p := ⟨w.heap.size + 1, 3, none⟩) (show w.heap.size + 1 < W0.heap.size by have := HZ0.out; omega)).trans h8, (SB.cell (p := ⟨w.heap.size + 1, 4, none⟩) (show w.heap.size + 1 < W0.heap.size by have := HZ0.out; omega)).trans h9, hB.trans SB⟩
    clear h0 h1 h2 h3 h4 h5 h6 h7 h8 h9 hB SB GB sB0 zB0 sB1 zB1 sB2 zB2 sB3 zB3 sB4 zB4 hBz fb kb fa 
    have hBB := Lib.hid TB
    have RB := Lib.hid RB
    have OB := Lib.hid OB
    skip
    have SSB := Lib.hid SSB
    clear TB
    change K _ (set5 wy gb p q r s t)
    generalize set5 wy gb p q r s t = wx at *
    refine hK.out _ _ SSB.out (fun hHeld => ?_)
    clear hK K SSB
    try simp only [Act.put, List.setIfInBounds_toArray, List.set_cons_zero, List.set_cons_succ, List.getElem_toArray, List.getElem_cons_zero, List.getElem_cons_succ]
    have HRA := OB
    have HRB := RB
    refine wpAnyH_done (by kernel_rfl) ?_ _
    clear hHeld hza hzb hne
    have heq := fun W => eql_five a b c d e_ p q r s t W
    have heq2 := fun W => equalIn_five a b c d e_ p q r s t W
    have hxl : (tagXs a b c d e_).length = 5 := rfl
    have hyl : (tagXs p q r s t).length = 5 := rfl
    have p0 := HRA.out 0 (by omega)
    have p1 := HRA.out 1 (by omega)
    have p2 := HRA.out 2 (by omega)
    have p3 := HRA.out 3 (by omega)
    have p4 := HRA.out 4 (by omega)
    have q0 := HRB.out 0 (by omega)
    have q1 := HRB.out 1 (by omega)
    have q2 := HRB.out 2 (by omega)
    have q3 := HRB.out 3 (by omega)
    have q4 := HRB.out 4 (by omega)
    simp only [List.getElem?_cons_zero, List.getElem?_cons_succ, Option.getD_some] at p0 q0 p1 q1 p2 q2 p3 q3 p4 q4
    have HRA := Lib.hid (show Row5 wx ga (tagXs a b c d e_) from HRA.out)
    have HRB := Lib.hid (show Row5 wx gb (tagXs p q r s t) from HRB.out)
    generalize hxs : tagXs a b c d e_ = xs at *
    generalize hys : tagXs p q r s t = ys at *
    have HXS := Lib.hid hxs
    have HYS := Lib.hid hys
    clear hxs hys
    have HXL := Lib.hid hxl
    have HYL := Lib.hid hyl
    clear hxl hyl
    by_cases hxy : xs = ys
    · have hbe : (xs == ys) = true := by simpa using hxy
      have hrv : cmpL xs ys = 0 := by rw [hxy]; exact cmpL_self _
      have HRV := Lib.hid hrv
      clear hrv hxy
      go_wp2_with fail
      go_ret
      exact ⟨by rw [HXS.out, HYS.out, HRV.out]; rfl, hBB.out⟩
    · have hbe : (xs == ys) = false := by simpa using hxy
      have HXY := Lib.hid hxy
      clear hxy
      have HR := Lib.hid (show cmpL xs ys = cmpL (xs.drop 0) (ys.drop 0) from rfl)
      generalize hRV : cmpL xs ys = RV at *
      have HRVE := Lib.hid hRV
      clear hRV
      go_wp2_with fail
      clear heq heq2 p0 p1 p2 p3 p4 q0 q1 q2 q3 q4
      go_loopw [7] (fun i wr => ∃ k : Nat, k < 5 ∧ i = .int .i64 k ∧ Hid (RV = cmpL (xs.drop k) (ys.drop k)) ∧ Hid (xs.drop k ≠ ys.drop k) ∧ Below wx.heap.size wx wr) (fun i _ => 5 - (intOf i).toNat)
      case atStart => exact ⟨0, by omega, rfl, HR, Lib.hid HXY.out, Below.refl _ _⟩
      case round =>
        obtain ⟨k, hlt, rfl, HRk, HNk, bw⟩ := hrel
        have HBW := Lib.hid (hBB.out.trans (bw.mono hBB.out.size))
        have HBK := Lib.hid bw
        have hltI : (k : Int) < 5 := by omega
        have c1 := cell_step bw (HRA.out k hlt)
        have c2 := cell_step bw (HRB.out k hlt)
        have hstep := cmpL_drop xs ys k (by rw [HXL.out]; exact hlt) (by rw [HYL.out]; exact hlt)
        have hne1 : xs[k]?.getD 0 = ys[k]?.getD 0 → k + 1 < 5 ∧ xs.drop (k + 1) ≠ ys.drop (k + 1) := by
          intro h
          have h1 : k < xs.length := by rw [HXL.out]; exact hlt
          have h2 : k < ys.length := by rw [HYL.out]; exact hlt
          rw [List.getElem?_eq_getElem h1, List.getElem?_eq_getElem h2] at h
          have hd : xs.drop (k + 1) ≠ ys.drop (k + 1) := fun hh => HNk.out (by
            have h3 : xs[k] = ys[k] := h
            rw [List.drop_eq_getElem_cons h1, List.drop_eq_getElem_cons h2, hh, h3])
          refine ⟨?_, hd⟩
          apply Nat.lt_of_not_le
          intro hge
          exact hd (by rw [List.drop_of_length_le (by rw [HXL.out]; exact hge), List.drop_of_length_le (by rw [HYL.out]; exact hge)])
        obtain ⟨x, hx⟩ : ∃ x, x = xs[k]?.getD 0 := ⟨_, rfl⟩
        obtain ⟨y, hy⟩ : ∃ y, y = ys[k]?.getD 0 := ⟨_, rfl⟩
        rw [← hx, ← hy] at hstep hne1
        rw [← hx] at c1
        rw [← hy] at c2
        have HS := Lib.hid (HRk.out.trans hstep)
        have HN := Lib.hid hne1
        have bd := (Below.refl wr.heap.size wr).drew
        clear hstep hx hy bw hne1
        by_cases h1 : x = y
        · have g1 : (x == y) = true := by simpa using h1
          have hv : RV = cmpL (xs.drop (k + 1)) (ys.drop (k + 1)) := by rw [HS.out, if_neg (show ¬ x < y by omega), if_neg (show ¬ y < x by omega)]
          have HV := Lib.hid hv
          have HK1 := (HN.out h1).1
          have HK2 := Lib.hid (HN.out h1).2
          clear hv h1
          go_wp2_with fail
          refine wp_region_held_drew (S := fun w' => w'.cell? ⟨ga, k, none⟩ = some (.int .i64 x) ∧ w'.cell? ⟨gb, k, none⟩ = some (.int .i64 y)) (by kernel_rfl) ?_ (fun hHeld => ?_)
          · exact ⟨cell_step bd c1, cell_step bd c2⟩
          refine wpAnyH_take (i := 0) (v := ?v3) rfl (by kernel_rfl) (by kernel_rfl) (by kernel_rfl) (fun _ _ _ h => h) (Or.inl ⟨by rfl, ?hy3⟩) (by assumption) ?rest3
          case hy3 => (intro w hSw; (try dsimp only at hSw); go_simp; (first | done | with_reducible rfl))
          simp only [Act.put, List.setIfInBounds_toArray, List.set_cons_zero, List.set_cons_succ, List.getElem_toArray, List.getElem_cons_zero]
          refine wpAnyH_take (i := 1) (v := ?v4) rfl (by kernel_rfl) (by kernel_rfl) (by kernel_rfl) (fun _ _ _ h => h) (Or.inl ⟨by rfl, ?hy4⟩) (by assumption) ?rest4
          case hy4 => (intro w hSw; (try dsimp only at hSw); go_simp; (first | done | with_reducible rfl))
          simp only [Act.put, List.setIfInBounds_toArray, List.set_cons_zero, List.set_cons_succ, List.getElem_toArray, List.getElem_cons_zero, List.getElem_cons_succ]
          refine wpAnyH_take (i := 2) (v := ?v5) rfl (by kernel_rfl) (by kernel_rfl) (by kernel_rfl) (fun _ _ _ h => h) (Or.inl ⟨by rfl, ?hy5⟩) (by assumption) ?rest5
          case hy5 => (intro w hSw; (try dsimp only at hSw); go_simp; (first | done | with_reducible rfl))
          simp only [Act.put, List.setIfInBounds_toArray, List.set_cons_zero, List.set_cons_succ, List.getElem_toArray, List.getElem_cons_zero, List.getElem_cons_succ]
          refine wpAnyH_take (i := 3) (v := ?v6) rfl (by kernel_rfl) (by kernel_rfl) (by kernel_rfl) (fun _ _ _ h => h) (Or.inl ⟨by rfl, ?hy6⟩) (by assumption) ?rest6
          case hy6 => (intro w hSw; (try dsimp only at hSw); go_simp; (first | done | with_reducible rfl))
          simp only [Act.put, List.setIfInBounds_toArray, List.set_cons_zero, List.set_cons_succ, List.getElem_toArray, List.getElem_cons_zero, List.getElem_cons_succ]
          refine wpAnyH_take (i := 4) (v := ?v7) rfl (by kernel_rfl) (by kernel_rfl) (by kernel_rfl) (fun _ _ _ h => h) (Or.inl ⟨by rfl, ?hy7⟩) (by assumption) ?rest7
          case hy7 => (intro w hSw; (try dsimp only at hSw); go_simp; (first | done | with_reducible rfl))
          simp only [Act.put, List.setIfInBounds_toArray, List.set_cons_zero, List.set_cons_succ, List.getElem_toArray, List.getElem_cons_zero, List.getElem_cons_succ]
          refine wpAnyH_take (i := 5) (v := ?v8) rfl (by kernel_rfl) (by kernel_rfl) (by kernel_rfl) (fun _ _ _ h => h) (Or.inl ⟨by rfl, ?hy8⟩) (by assumption) ?rest8
          case hy8 => (intro w hSw; (try dsimp only at hSw); go_simp; (first | done | with_reducible rfl))
          simp only [Act.put, List.setIfInBounds_toArray, List.set_cons_zero, List.set_cons_succ, List.getElem_toArray, List.getElem_cons_zero, List.getElem_cons_succ]
          refine wpAnyH_take (i := 6) (v := ?v9) rfl (by kernel_rfl) (by kernel_rfl) (by kernel_rfl) (fun _ _ _ h => h) (Or.inl ⟨by rfl, ?hy9⟩) (by assumption) ?rest9
          case hy9 => (intro w hSw; (try dsimp only at hSw); go_simp; (first | done | with_reducible rfl))
          simp only [Act.put, List.setIfInBounds_toArray, List.set_cons_zero, List.set_cons_succ, List.getElem_toArray, List.getElem_cons_zero, List.getElem_cons_succ]
          refine wpAnyH_done (by kernel_rfl) ?_ _
          go_wp2_with fail
          refine ⟨⟨k + 1, HK1, by go_num, HV, HK2, HBK.out.drew⟩, ?_⟩
          show 5 - ((k : Int) + 1).toNat < 5 - ((k : Int)).toNat
          omega
        · have g1 : (x == y) = false := by simpa using h1
          have hv : RV = Lib.compareInt x y := by
            rw [HS.out]
            unfold Lib.compareInt
            by_cases h2 : x < y
            · rw [if_pos h2, if_pos h2]
            · rw [if_neg h2, if_neg h2, if_pos (show y < x by omega), if_pos (show x > y by omega)]
          have HV := Lib.hid hv
          clear hv h1
          have c1' := cell_step bd c1
          have c2' := cell_step bd c2
          go_wp2_with fail
          refine wp_region_held_drew (S := fun w' => w'.cell? ⟨ga, k, none⟩ = some (.int .i64 x) ∧ w'.cell? ⟨gb, k, none⟩ = some (.int .i64 y)) (by kernel_rfl) ?_ (fun hHeld => ?_)
          · exact ⟨c1', c2'⟩
          refine wpAnyH_take (i := 0) (v := ?v10) rfl (by kernel_rfl) (by kernel_rfl) (by kernel_rfl) (fun _ _ _ h => h) (Or.inl ⟨by rfl, ?hy10⟩) (by assumption) ?rest10
          case hy10 => (intro w hSw; (try dsimp only at hSw); go_simp; (first | done | with_reducible rfl))
          simp only [Act.put, List.setIfInBounds_toArray, List.set_cons_zero, List.set_cons_succ, List.getElem_toArray, List.getElem_cons_zero]
          refine wpAnyH_take (i := 1) (v := ?v11) rfl (by kernel_rfl) (by kernel_rfl) (by kernel_rfl) (fun _ _ _ h => h) (Or.inl ⟨by rfl, ?hy11⟩) (by assumption) ?rest11
          case hy11 => (intro w hSw; (try dsimp only at hSw); go_simp; (first | done | with_reducible rfl))
          simp only [Act.put, List.setIfInBounds_toArray, List.set_cons_zero, List.set_cons_succ, List.getElem_toArray, List.getElem_cons_zero, List.getElem_cons_succ]
          refine wpAnyH_take (i := 2) (v := ?v12) rfl (by kernel_rfl) (by kernel_rfl) (by kernel_rfl) (fun _ _ _ h => h) (Or.inl ⟨by rfl, ?hy12⟩) (by assumption) ?rest12
          case hy12 => (intro w hSw; (try dsimp only at hSw); go_simp; (first | done | with_reducible rfl))
          simp only [Act.put, List.setIfInBounds_toArray, List.set_cons_zero, List.set_cons_succ, List.getElem_toArray, List.getElem_cons_zero, List.getElem_cons_succ]
          refine wpAnyH_take (i := 3) (v := ?v13) rfl (by kernel_rfl) (by kernel_rfl) (by kernel_rfl) (fun _ _ _ h => h) (Or.inl ⟨by rfl, ?hy13⟩) (by assumption) ?rest13
          case hy13 => (intro w hSw; (try dsimp only at hSw); go_simp; (first | done | with_reducible rfl))
          simp only [Act.put, List.setIfInBounds_toArray, List.set_cons_zero, List.set_cons_succ, List.getElem_toArray, List.getElem_cons_zero, List.getElem_cons_succ]
          refine wpAnyH_take (i := 4) (v := ?v14) rfl (by kernel_rfl) (by kernel_rfl) (by kernel_rfl) (fun _ _ _ h => h) (Or.inl ⟨by rfl, ?hy14⟩) (by assumption) ?rest14
          case hy14 => (intro w hSw; (try dsimp only at hSw); go_simp; (first | done | with_reducible rfl))
          simp only [Act.put, List.setIfInBounds_toArray, List.set_cons_zero, List.set_cons_succ, List.getElem_toArray, List.getElem_cons_zero, List.getElem_cons_succ]
          refine wpAnyH_take (i := 5) (v := ?v15) rfl (by kernel_rfl) (by kernel_rfl) (by kernel_rfl) (fun _ _ _ h => h) (Or.inl ⟨by rfl, ?hy15⟩) (by assumption) ?rest15
          case hy15 => (intro w hSw; (try dsimp only at hSw); go_simp; (first | done | with_reducible rfl))
          simp only [Act.put, List.setIfInBounds_toArray, List.set_cons_zero, List.set_cons_succ, List.getElem_toArray, List.getElem_cons_zero, List.getElem_cons_succ]
          refine wpAnyH_take (i := 6) (v := ?v16) rfl (by kernel_rfl) (by kernel_rfl) (by kernel_rfl) (fun _ _ _ h => h) (Or.inl ⟨by rfl, ?hy16⟩) (by assumption) ?rest16
          case hy16 => (intro w hSw; (try dsimp only at hSw); go_simp; (first | done | with_reducible rfl))
          simp only [Act.put, List.setIfInBounds_toArray, List.set_cons_zero, List.set_cons_succ, List.getElem_toArray, List.getElem_cons_zero, List.getElem_cons_succ]
          refine wpAnyH_done (by kernel_rfl) ?_ _
          have bd2 := (Below.refl wr.drew.heap.size wr.drew).drew
          go_wp2_with fail
          refine wp_region_held_drew (S := fun w' => w'.cell? ⟨ga, k, none⟩ = some (.int .i64 x) ∧ w'.cell? ⟨gb, k, none⟩ = some (.int .i64 y)) (by kernel_rfl) ?_ (fun hHeld => ?_)
          · exact ⟨cell_step bd2 c1', cell_step bd2 c2'⟩
          refine wpAnyH_take (i := 0) (v := ?v17) rfl (by kernel_rfl) (by kernel_rfl) (by kernel_rfl) (fun _ _ _ h => h) (Or.inl ⟨by rfl, ?hy17⟩) (by assumption) ?rest17
          case hy17 => (intro w hSw; (try dsimp only at hSw); go_simp; (first | done | with_reducible rfl))
          simp only [Act.put, List.setIfInBounds_toArray, List.set_cons_zero, List.set_cons_succ, List.getElem_toArray, List.getElem_cons_zero]
          refine wpAnyH_take (i := 1) (v := ?v18) rfl (by kernel_rfl) (by kernel_rfl) (by kernel_rfl) (fun _ _ _ h => h) (Or.inl ⟨by rfl, ?hy18⟩) (by assumption) ?rest18
          case hy18 => (intro w hSw; (try dsimp only at hSw); go_simp; (first | done | with_reducible rfl))
          simp only [Act.put, List.setIfInBounds_toArray, List.set_cons_zero, List.set_cons_succ, List.getElem_toArray, List.getElem_cons_zero, List.getElem_cons_succ]
          refine wpAnyH_take (i := 2) (v := ?v19) rfl (by kernel_rfl) (by kernel_rfl) (by kernel_rfl) (fun _ _ _ h => h) (Or.inl ⟨by rfl, ?hy19⟩) (by assumption) ?rest19
          case hy19 => (intro w hSw; (try dsimp only at hSw); go_simp; (first | done | with_reducible rfl))
          simp only [Act.put, List.setIfInBounds_toArray, List.set_cons_zero, List.set_cons_succ, List.getElem_toArray, List.getElem_cons_zero, List.getElem_cons_succ]
          refine wpAnyH_take (i := 3) (v := ?v20) rfl (by kernel_rfl) (by kernel_rfl) (by kernel_rfl) (fun _ _ _ h => h) (Or.inl ⟨by rfl, ?hy20⟩) (by assumption) ?rest20
          case hy20 => (intro w hSw; (try dsimp only at hSw); go_simp; (first | done | with_reducible rfl))
          simp only [Act.put, List.setIfInBounds_toArray, List.set_cons_zero, List.set_cons_succ, List.getElem_toArray, List.getElem_cons_zero, List.getElem_cons_succ]
          refine wpAnyH_take (i := 4) (v := ?v21) rfl (by kernel_rfl) (by kernel_rfl) (by kernel_rfl) (fun _ _ _ h => h) (Or.inl ⟨by rfl, ?hy21⟩) (by assumption) ?rest21
          case hy21 => (intro w hSw; (try dsimp only at hSw); go_simp; (first | done | with_reducible rfl))
          simp only [Act.put, List.setIfInBounds_toArray, List.set_cons_zero, List.set_cons_succ, List.getElem_toArray, List.getElem_cons_zero, List.getElem_cons_succ]
          refine wpAnyH_take (i := 5) (v := ?v22) rfl (by kernel_rfl) (by kernel_rfl) (by kernel_rfl) (fun _ _ _ h => h) (Or.inl ⟨by rfl, ?hy22⟩) (by assumption) ?rest22
          case hy22 => (intro w hSw; (try dsimp only at hSw); go_simp; (first | done | with_reducible rfl))
          simp only [Act.put, List.setIfInBounds_toArray, List.set_cons_zero, List.set_cons_succ, List.getElem_toArray, List.getElem_cons_zero, List.getElem_cons_succ]
          refine wpAnyH_ready (rs := [6]) (by kernel_rfl) (by simp) ?_
          refine AllReadyH.cons rfl (fun K hK => ?_) AllReadyH.nil
          simp only [List.getElem_toArray, List.getElem_cons_zero, List.getElem_cons_succ]
          go_simp
          go_at_call 34
          refine (Tryd.cmp_Compare_int x y _).mono ?_
          rintro e w6 ⟨rfl, rfl⟩
          go_wp2_with fail
          refine hK.out _ _ hHeld (fun hHeld => ?_)
          clear hK K
          try simp only [Act.put, List.setIfInBounds_toArray, List.set_cons_zero, List.set_cons_succ, List.getElem_toArray, List.getElem_cons_zero, List.getElem_cons_succ]
          refine wpAnyH_take (i := 7) (v := ?v23) rfl (by kernel_rfl) (by kernel_rfl) (by kernel_rfl) (fun _ _ _ h => h) (Or.inl ⟨by rfl, ?hy23⟩) (by assumption) ?rest23
          case hy23 => (intro w hSw; (try dsimp only at hSw); go_simp; (first | done | with_reducible rfl))
          simp only [Act.put, List.setIfInBounds_toArray, List.set_cons_zero, List.set_cons_succ, List.getElem_toArray, List.getElem_cons_zero, List.getElem_cons_succ]
          refine wpAnyH_done (by kernel_rfl) ?_ _
          go_wp2_with fail
          go_ret
          exact ⟨by rw [HXS.out, HYS.out, HRVE.out, HV.out]; rfl, HBW.out.drew.drew⟩
end Go.Proofs.YtffgcloacdpfaaaDoor
