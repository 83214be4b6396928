/- Layer 15: Find, and the reference's. -/
import Derived.Test.YtpghiebedjogpaaFndA
import Derived.Laws.StructEq
import Derived.Deep.RegionHeld3
namespace Go.Proofs.Ytpghiebedjogpaa
open Go.RowKit
set_option linter.unusedVariables false
theorem eq3 (T : TypeId) (a b c p q r : Int) (w : World) (hT : Try.prog.fieldsOf T = Try.prog.fieldsOf 43) (h1 : ∀ d x y, (Op.equalIn (d + 1) T (.agg x) (.agg y)).run Try.prog w = (Op.eqFields d x y (Try.prog.fieldsOf T).toList).run Try.prog w) : (Op.equalIn 10000 T (.agg #[.int .i64 a, .int .i64 b, .int .i64 c]) (.agg #[.int .i64 p, .int .i64 q, .int .i64 r])).run Try.prog w = .ok (a == p && (b == q && c == r)) w := by
  rw [h1 9999, hT]
  have hpart : ∀ (xs : Array Value) (i : Nat) (x : Value), xs[i]? = some x → (part 3 xs i).run Try.prog w = .ok x w := by
    intro xs i x h
    simp [part, isAgg, run_underlying Try.underlying3, h]
  have hE : ∀ x y : Int, (Op.equalIn 9999 3 (.int .i64 x) (.int .i64 y)).run Try.prog w = .ok (x == y) w := fun x y => run_equalIn_int w 9998 3 .i64 .i64 x y Try.underlying3
  simp only [Program.fieldsOf, Try.underlying43]
  have g0 := hpart #[.int .i64 a, .int .i64 b, .int .i64 c] 0 (.int .i64 a) rfl
  have g1 := hpart #[.int .i64 a, .int .i64 b, .int .i64 c] 1 (.int .i64 b) rfl
  have g2 := hpart #[.int .i64 a, .int .i64 b, .int .i64 c] 2 (.int .i64 c) rfl
  have k0 := hpart #[.int .i64 p, .int .i64 q, .int .i64 r] 0 (.int .i64 p) rfl
  have k1 := hpart #[.int .i64 p, .int .i64 q, .int .i64 r] 1 (.int .i64 q) rfl
  have k2 := hpart #[.int .i64 p, .int .i64 q, .int .i64 r] 2 (.int .i64 r) rfl
  simp only [Op.eqFields, ne_eq, String.reduceEq, not_false_eq_true, if_true, Sem.run_bind, Sem.run_ite, g0, g1, g2, k0, k1, k2, hE, Result.andThen_ok, Sem.run_pure]
  by_cases h0 : a = p
  · by_cases h1 : b = q
    · by_cases h2 : c = r
      · simp [h0, h1, h2]
      · simp [h0, h1, h2]
    · simp [h0, h1]
  · simp [h0]
theorem eql_place (a b c p q r : Int) (w : World) : (binOp .eql 43 (.agg #[.int .i64 a, .int .i64 b, .int .i64 c]) (.agg #[.int .i64 p, .int .i64 q, .int .i64 r])).run Try.prog w = .ok (.bool (a == p && (b == q && c == r))) w := by
  rw [run_eql_struct, eq3 43 _ _ _ _ _ _ _ rfl (fun d x y => run_equalIn_agg w d 43 _ _ (by kernel_rfl) (by kernel_rfl))]
  rfl
theorem eql_rplace (a b c p q r : Int) (w : World) : (binOp .eql 46 (.agg #[.int .i64 a, .int .i64 b, .int .i64 c]) (.agg #[.int .i64 p, .int .i64 q, .int .i64 r])).run Try.prog w = .ok (.bool (a == p && (b == q && c == r))) w := by
  rw [run_eql_struct, eq3 46 _ _ _ _ _ _ _ (by kernel_rfl) (fun d x y => run_equalIn_agg w d 46 _ _ (by kernel_rfl) (by kernel_rfl))]
  rfl
set_option maxHeartbeats 2000000 in
theorem find_any (i n b k c : Int) (x y z : Int) (ok : Bool) (hL : ∀ W, Calls Try.prog 33 #[.int .i64 i, .int .i64 n, .int .i64 b, .int .i64 k, .int .i64 c] W fun e w' => e = .returned (.agg #[.int .i64 x, .int .i64 y, .int .i64 z]) ∧ Below W.heap.size W w')
    (hok : (x == -1 && (y == -1 && z == -1)) = !ok) (w : World) :
    Calls Try.prog 21 #[.int .i64 i, .int .i64 n, .int .i64 b, .int .i64 k, .int .i64 c] w fun e w' => e = .returned (.tuple #[if ok then .agg #[.int .i64 x, .int .i64 y, .int .i64 z] else .agg #[.int .i64 0, .int .i64 0, .int .i64 0], .bool ok]) ∧ Below w.heap.size w w' := by
  have AL := (Below.refl w.heap.size w).alloc (Nat.le_refl _) (.cells #[.int .i64 0, .int .i64 0, .int .i64 0] 43)
  have C3 := Lib.hid (Cell3.new w (.int .i64 0) (.int .i64 0) (.int .i64 0) 43)
  have HQ := fun W => eql_place x y z (-1) (-1) (-1) W
  have HL := Lib.hid hL
  rw [hok] at HQ
  clear hL hok
  go_enter Try.func21, Try.ntmps21
  go_wp2_with fail
  refine (HL.out _).mono ?_
  rintro e w1 ⟨rfl, b1⟩
  have C4 := Lib.hid (C3.out.later b1)
  have B1 := Lib.hid (below_step AL b1)
  clear b1 AL HL
  go_upto_region 2 with fail
  have al := (Below.refl w1.heap.size w1).alloc (Nat.le_refl _) (.cells #[.int .i64 x, .int .i64 y, .int .i64 z] 43)
  have c0 := (cell_new w1 #[.int .i64 x, .int .i64 y, .int .i64 z] 43 0).trans rfl
  have c1 := (cell_new w1 #[.int .i64 x, .int .i64 y, .int .i64 z] 43 1).trans rfl
  have c2 := (cell_new w1 #[.int .i64 x, .int .i64 y, .int .i64 z] 43 2).trans rfl
  have C5 := Lib.hid (C4.out.later al)
  have B5 := Lib.hid (below_step B1.out al)
  clear al C4 B1 C3
  generalize w1.alloc (.cells #[.int .i64 x, .int .i64 y, .int .i64 z] 43) = W5 at *
  generalize w1.heap.size = U at *
  refine wp_region_held_drew (S := fun w' => w'.cell? ⟨U, 0, none⟩ = some (.int .i64 x) ∧ w'.cell? ⟨U, 1, none⟩ = some (.int .i64 y) ∧ w'.cell? ⟨U, 2, none⟩ = some (.int .i64 z) ∧ Below W5.heap.size W5 w') (by kernel_rfl) ?_ (fun hHeld => ?_)
  · exact ⟨c0, c1, c2, (Below.refl _ _).drew⟩
  refine wpAnyH_take (i := 0) (v := ?v1) rfl (by kernel_rfl) (by kernel_rfl) (by kernel_rfl) (fun _ _ _ h => h) (Or.inl ⟨by rfl, ?hy1⟩) (by assumption) ?rest1
  case hy1 => (intro w hSw; (try dsimp only at hSw); go_simp; (first | done | with_reducible rfl))
  simp only [Act.put, List.setIfInBounds_toArray, List.set_cons_zero, List.set_cons_succ, List.getElem_toArray, List.getElem_cons_zero]
  refine wpAnyH_ready (rs := [1]) (by kernel_rfl) (by simp) ?_
  refine AllReadyH.cons rfl (fun K hK => ?_) AllReadyH.nil
  simp only [List.getElem_toArray, List.getElem_cons_zero, List.getElem_cons_succ]
  go_simp
  go_at_call 34
  obtain ⟨h_0, h_1, h_2, h_B⟩ := hHeld
  refine (nowhere_any _).mono ?_
  rintro e w_k1 ⟨rfl, k1⟩
  have HB := Lib.hid (below_step h_B k1)
  go_wp2_with fail
  refine hK.out _ _ ⟨cell_step k1 h_0, cell_step k1 h_1, cell_step k1 h_2, below_step h_B k1⟩ (fun hHeld => ?_)
  clear hK K h_0 h_1 h_2 h_B
  try simp only [Act.put, List.setIfInBounds_toArray, List.set_cons_zero, List.set_cons_succ, List.getElem_toArray, List.getElem_cons_zero, List.getElem_cons_succ]
  refine wpAnyH_take (i := 2) (v := ?v2) rfl (by kernel_rfl) (by kernel_rfl) (by kernel_rfl) (fun _ _ _ h => h) (Or.inl ⟨by rfl, ?hy2⟩) (by assumption) ?rest2
  case hy2 => (intro w hSw; (try dsimp only at hSw); go_simp; (first | done | with_reducible rfl))
  simp only [Act.put, List.setIfInBounds_toArray, List.set_cons_zero, List.set_cons_succ, List.getElem_toArray, List.getElem_cons_zero, List.getElem_cons_succ]
  refine wpAnyH_done (by kernel_rfl) ?_ _
  obtain ⟨d0, d1, d2, h_B⟩ := hHeld
  have C6 := C5.out.later HB.out
  have B6 := Lib.hid (below_step B5.out HB.out)
  clear c0 c1 c2 h_B HB B5 C5 HQ
  obtain ⟨⟨x0, r0⟩, ⟨y0, r1⟩, ⟨z0, r2⟩, f0, f1, f2⟩ := C6
  cases ok
  · have ST := Lib.hid (stored3 ⟨⟨x0, r0⟩, ⟨y0, r1⟩, ⟨z0, r2⟩, f0, f1, f2⟩ (.int .i64 0) (.int .i64 0) (.int .i64 0))
    go_wp2_with fail
    (try simp only [Exit.inBlock, Exit.then])
    have D0 := ST.out.1
    have D1 := ST.out.2.1
    have D2 := ST.out.2.2.1
    refine bodyPost_ret (v := .tuple #[.agg #[.int .i64 0, .int .i64 0, .int .i64 0], .bool false]) (by simp [results, Try.results21, D0, D1, D2, go_sem]) rfl ⟨rfl, ?_⟩
    exact B6.out.trans ST.out.2.2.2
  · have ST := Lib.hid (stored3 ⟨⟨x0, r0⟩, ⟨y0, r1⟩, ⟨z0, r2⟩, f0, f1, f2⟩ (.int .i64 x) (.int .i64 y) (.int .i64 z))
    go_wp2_with fail
    (try simp only [Exit.inBlock, Exit.then])
    have D0 := ST.out.1
    have D1 := ST.out.2.1
    have D2 := ST.out.2.2.1
    refine bodyPost_ret (v := .tuple #[.agg #[.int .i64 x, .int .i64 y, .int .i64 z], .bool true]) (by simp [results, Try.results21, D0, D1, D2, go_sem]) rfl ⟨rfl, ?_⟩
    exact B6.out.trans ST.out.2.2.2
set_option maxHeartbeats 2000000 in
theorem refFind_no (i n b k c : Int) (h : ¬ Ok5 i n b k c) (hi : -9223372036854775808 ≤ i ∧ i ≤ 9223372036854775807) (hn : -9223372036854775808 ≤ n ∧ n ≤ 1048576) (hb : -9223372036854775808 ≤ b ∧ b ≤ 9223372036854775807) (w : World) :
    Calls Try.prog 22 #[.int .i64 i, .int .i64 n, .int .i64 b, .int .i64 k, .int .i64 c] w fun e w' => e = .returned (.tuple #[.agg #[.int .i64 0, .int .i64 0, .int .i64 0], .bool false]) ∧ Below w.heap.size w w' := by
  have AL := (Below.refl w.heap.size w).alloc (Nat.le_refl _) (.cells #[.int .i64 0, .int .i64 0, .int .i64 0] 46)
  have C3 := Lib.hid (Cell3.new w (.int .i64 0) (.int .i64 0) (.int .i64 0) 46)
  have HB := Lib.hid (fun W => refBuckets_any n b hn.1 hn.2 hb.1 hb.2 W)
  have HLE := Lib.hid (show (bucketsR n b).length ≤ 1048576 by unfold bucketsR; rw [List.length_reverse]; exact blocksR_le n b hn.2)
  have hf : findR i (bucketsR n b) 0 < 0 ∨ ¬ findR i (bucketsR n b) 0 < 0 ∧ k < 1 ∨ ¬ findR i (bucketsR n b) 0 < 0 ∧ ¬ k < 1 ∧ c < 1 := by
    by_cases h' : i < 0 ∨ n ≤ i ∨ b < 1
    · have := find_bucket_no n b i h'
      omega
    · unfold Ok5 at h
      omega
  have hfr := findR_range i (bucketsR n b) 0
  have hle' := HLE.out
  generalize bucketsR n b = bs at *
  have HF := Lib.hid (fun v W h => refOf_any i v bs HLE.out W h)
  generalize findR i bs 0 = f at *
  clear h
  rcases hf with h | h | h
  all_goals
    go_enter Try.func22, Try.ntmps22
    go_wp2_with fail
    refine (HB.out _).mono ?_
    rintro e w1 ⟨v, rfl, o1, b1⟩
    have V1 := Lib.hid (RangesAt.new o1)
    obtain ⟨a, cp, rfl⟩ := own_value o1
    have B1 := Lib.hid (below_step AL b1)
    obtain ⟨⟨x0, r0⟩, ⟨y0, r1⟩, ⟨z0, r2⟩, f0, f1, f2⟩ := C3.out.later b1
    clear o1 b1
    go_wp2_with fail
    refine (HF.out _ _ V1.out).mono ?_
    rintro e w2 ⟨rfl, rfl⟩
    have ST := Lib.hid (stored3 ⟨⟨x0, r0⟩, ⟨y0, r1⟩, ⟨z0, r2⟩, f0, f1, f2⟩ (.int .i64 0) (.int .i64 0) (.int .i64 0))
    go_wp2_with fail
    (try simp only [Exit.inBlock, Exit.then])
    have D0 := ST.out.1
    have D1 := ST.out.2.1
    have D2 := ST.out.2.2.1
    refine bodyPost_ret (v := .tuple #[.agg #[.int .i64 0, .int .i64 0, .int .i64 0], .bool false]) (by simp [results, Try.results22, D0, D1, D2, go_sem]) rfl ⟨rfl, ?_⟩
    exact B1.out.trans ST.out.2.2.2
end Go.Proofs.Ytpghiebedjogpaa
