/- Layer 15: the reference's Find where there is one; BucketFinds. -/
import Derived.Test.YtpghiebedjogpaaFndB
import Derived.Test.YtpghiebedjogpaaLaw
import Derived.Test.YtpghiebedjogpaaAgg
import Derived.BigQuiet
namespace Go.Proofs.Ytpghiebedjogpaa
open Go.RowKit
set_option linter.unusedVariables false
/-- where an index lies -/
structure Lies (i n b k c : Int) (q kk m : Nat) (lo hi sl sh : Int) : Prop where
  ok : Ok5 i n b k c
  hq : i / b = (q : Int)
  hlo : lo = (q : Int) * b
  hhi : hi = lo + min b (n - lo)
  kl : kk < (bucketsR n b).length
  kf : findR i (bucketsR n b) 0 = (kk : Int)
  kc : (kk : Int) = cntB n b - 1 - q
  kb : (bucketsR n b)[kk] = (lo, hi)
  ml : m < (segR lo hi k).length
  mf : findR i (segR lo hi k) 0 = (m : Int)
  mb : (segR lo hi k)[m] = (sl, sh)
  bds : 0 ≤ lo ∧ lo ≤ sl ∧ sl ≤ i ∧ i < sh ∧ sh ≤ hi ∧ hi ≤ n
  cf : findR i (chuR sl sh c) 0 = (i - sl) / c
theorem lies_of {i n b k c : Int} (h : Ok5 i n b k c) : ∃ q kk m lo hi sl sh, Lies i n b k c q kk m lo hi sl sh := by
  have h' := h
  obtain ⟨h0, h1, h2, h3, h4⟩ := h'
  obtain ⟨q, hq, hcq, e1, e2, e3, e4⟩ := block_at n b i h0 h1 h2
  obtain ⟨kk, kl, kf, kc, kb⟩ := find_bucket n b i h0 h1 h2 q hq
  have hlo : 0 ≤ (q : Int) * b := Int.mul_nonneg (by omega) (by omega)
  have e5 : ((q : Int) + 1) * b = q * b + b := by rw [Int.add_mul, Int.one_mul]
  obtain ⟨m, hm, mf, s0, s1, s2, s3⟩ := find_seg ((q : Int) * b) (q * b + min b (n - q * b)) k i e2 (by omega) h3
  exact ⟨q, kk, m, _, _, _, _, ⟨h, hq, rfl, rfl, kl, kf, kc, kb, hm, mf, rfl, ⟨hlo, s0, s1, s2, s3, by omega⟩, find_chu _ _ c i s1 s2 h4⟩⟩
set_option maxHeartbeats 2000000 in
theorem refFind_ok (i n b k c : Int) (q kk m : Nat) (lo hi sl sh : Int) (L : Lies i n b k c q kk m lo hi sl sh) (hi : -9223372036854775808 ≤ i ∧ i ≤ 9223372036854775807) (hn : -9223372036854775808 ≤ n ∧ n ≤ 1048576) (hb : -9223372036854775808 ≤ b ∧ b ≤ 9223372036854775807) (hk : k ≤ 1048576) (hc : c ≤ 9223372036854775807) (w : World) :
    Calls Try.prog 22 #[.int .i64 i, .int .i64 n, .int .i64 b, .int .i64 k, .int .i64 c] w fun e w' => e = .returned (.tuple #[.agg #[.int .i64 kk, .int .i64 m, .int .i64 ((i - sl) / c)], .bool true]) ∧ Below w.heap.size w w' := by
  have AL := (Below.refl w.heap.size w).alloc (Nat.le_refl _) (.cells #[.int .i64 0, .int .i64 0, .int .i64 0] 46)
  have C3 := Lib.hid (Cell3.new w (.int .i64 0) (.int .i64 0) (.int .i64 0) 46)
  have HB := Lib.hid (fun W => refBuckets_any n b hn.1 hn.2 hb.1 hb.2 W)
  have HLE := Lib.hid (show (bucketsR n b).length ≤ 1048576 by unfold bucketsR; rw [List.length_reverse]; exact blocksR_le n b hn.2)
  obtain ⟨⟨h0, h1, h2, h3, h4⟩, -, -, -, kl, kf, -, kb, ml, mf, mb, ⟨d0, d1, d2, d3, d4, d5⟩, cf⟩ := L
  rename_i hI
  have HSG := Lib.hid (fun W => refSegments_any lo hI k d0 (by omega) (by omega) (by omega) hk W)
  have HCH := Lib.hid (fun W => refChunks_any sl sh c (by omega) (by omega) (by omega) (by omega) hc W)
  have HL2 := Lib.hid (segR_le lo hI k hk)
  have HL3 := Lib.hid (chuR_le sl sh c (by omega))
  have q1 := Int.ediv_nonneg (show 0 ≤ i - sl by omega) (show 0 ≤ c by omega)
  generalize bucketsR n b = bs at *
  generalize segR lo hI k = ss at *
  generalize chuR sl sh c = cs at *
  have HF1 := Lib.hid (fun v W h => refOf_any i v bs HLE.out W h)
  have HF2 := Lib.hid (fun v W h => refOf_any i v ss HL2.out W h)
  have HF3 := Lib.hid (fun v W h => refOf_any i v cs HL3.out W h)
  rw [kf] at HF1
  rw [mf] at HF2
  rw [cf] at HF3
  have KB := Lib.hid kb
  have MB := Lib.hid mb
  generalize (i - sl) / c = z at *
  clear kf mf cf kb mb
  go_enter Try.func22, Try.ntmps22
  go_wp2_with fail
  refine (HB.out _).mono ?_
  rintro e w1 ⟨v, rfl, o1, b1⟩
  have V1 := Lib.hid (RangesAt.new o1)
  obtain ⟨a, cp, rfl⟩ := own_value o1
  have B1 := Lib.hid (below_step AL b1)
  have C4 := Lib.hid (C3.out.later b1)
  clear o1 b1 HB
  go_wp2_with fail
  refine (HF1.out _ _ V1.out).mono ?_
  rintro e w2 ⟨rfl, rfl⟩
  rcases V1.out.form with ⟨_, e0⟩ | ⟨bb, off, cap, e0, hcap, hbb, hcs⟩
  · rw [e0] at kl; cases kl
  cases e0
  have c0 := (hcs kk kl).1
  have c1 := (hcs kk kl).2
  rw [KB.out] at c0 c1
  have hbl := World.block_lt_of_cell? _ _ c0
  have kk1 : (kk : Int) < (bs.length : Int) := by omega
  clear hcs
  go_wp2_with fail
  refine (HSG.out _).mono ?_
  rintro e w3 ⟨v, rfl, o3, b3⟩
  have V3 := Lib.hid (RangesAt.new o3)
  obtain ⟨a3, cp3, rfl⟩ := own_value o3
  have B3 := Lib.hid (below_step B1.out b3)
  have C5 := Lib.hid (C4.out.later b3)
  clear o3 b3 HSG c0 c1 hbl
  go_wp2_with fail
  refine (HF2.out _ _ V3.out).mono ?_
  rintro e w4 ⟨rfl, rfl⟩
  rcases V3.out.form with ⟨_, e0⟩ | ⟨bb3, off3, cap3, e0, hcap3, hbb3, hcs3⟩
  · rw [e0] at ml; cases ml
  cases e0
  have c0 := (hcs3 m ml).1
  have c1 := (hcs3 m ml).2
  rw [MB.out] at c0 c1
  have hbl := World.block_lt_of_cell? _ _ c0
  have mm1 : (m : Int) < (ss.length : Int) := by omega
  clear hcs3
  go_wp2_with fail
  refine (HCH.out _).mono ?_
  rintro e w5 ⟨v, rfl, o5, b5⟩
  have V5 := Lib.hid (RangesAt.new o5)
  obtain ⟨a5, cp5, rfl⟩ := own_value o5
  have B5 := Lib.hid (below_step B3.out b5)
  obtain ⟨⟨x0, r0⟩, ⟨y0, r1⟩, ⟨z0, r2⟩, f0, f1, f2⟩ := C5.out.later b5
  clear o5 b5 HCH c0 c1 hbl
  go_wp2_with fail
  refine (HF3.out _ _ V5.out).mono ?_
  rintro e w6 ⟨rfl, rfl⟩
  have ST := Lib.hid (stored3 ⟨⟨x0, r0⟩, ⟨y0, r1⟩, ⟨z0, r2⟩, f0, f1, f2⟩ (.int .i64 kk) (.int .i64 m) (.int .i64 z))
  go_wp2_with fail
  (try simp only [Exit.inBlock, Exit.then])
  have D0 := ST.out.1
  have D1 := ST.out.2.1
  have D2 := ST.out.2.2.1
  refine bodyPost_ret (v := .tuple #[.agg #[.int .i64 kk, .int .i64 m, .int .i64 z], .bool true]) (by simp [results, Try.results22, D0, D1, D2, go_sem]) rfl ⟨rfl, ?_⟩
  exact B5.out.trans ST.out.2.2.2
set_option maxHeartbeats 2000000 in
theorem finds_walk (i n b k c x y z : Int) (ok : Bool) (h1 : n ≤ 600) (h2 : k ≤ 200)
    (E1 : ∀ W, Calls Try.prog 21 #[.int .i64 i, .int .i64 n, .int .i64 b, .int .i64 k, .int .i64 c] W fun e w' => e = .returned (.tuple #[.agg #[.int .i64 x, .int .i64 y, .int .i64 z], .bool ok]) ∧ Below W.heap.size W w')
    (E2 : ∀ W, Calls Try.prog 22 #[.int .i64 i, .int .i64 n, .int .i64 b, .int .i64 k, .int .i64 c] W fun e w' => e = .returned (.tuple #[.agg #[.int .i64 x, .int .i64 y, .int .i64 z], .bool ok]) ∧ Below W.heap.size W w') (w : World) :
    Calls Try.prog 6 #[.int .i64 i, .agg #[.int .i64 n, .int .i64 b, .int .i64 k, .int .i64 c]] w fun e w' => e = .returned (.bool true) ∧ Below w.heap.size w w' := by
  have AL := Lib.hid (fun q => below_drewN ((Below.refl w.heap.size w).alloc (Nat.le_refl _) (.cells #[.int .i64 n, .int .i64 b, .int .i64 k, .int .i64 c] 41)) q)
  have HQ := fun W => (eql_rplace x y z x y z W).trans (by simp : _ = Result.ok (Value.bool true) W)
  go_enter Try.func6, Try.ntmps6
  go_wp2_with fail
  go_quiet (fail)
  have B0 := Lib.hid (AL.out nq)
  generalize (World.drewN _ nq) = W2 at *
  go_wp2_with fail
  refine (E1 _).mono ?_
  rintro e w3 ⟨rfl, b3⟩
  have B3 := Lib.hid (below_step B0.out b3)
  clear b3 E1
  go_upto_region 5 with fail
  have al := (Below.refl w3.heap.size w3).alloc (Nat.le_refl _) (.cells #[.int .i64 x, .int .i64 y, .int .i64 z] 43)
  have c0 := (cell_new w3 #[.int .i64 x, .int .i64 y, .int .i64 z] 43 0).trans rfl
  have c1 := (cell_new w3 #[.int .i64 x, .int .i64 y, .int .i64 z] 43 1).trans rfl
  have c2 := (cell_new w3 #[.int .i64 x, .int .i64 y, .int .i64 z] 43 2).trans rfl
  have B4 := Lib.hid (below_step B3.out al)
  clear al
  generalize w3.alloc (.cells #[.int .i64 x, .int .i64 y, .int .i64 z] 43) = w4 at *
  generalize w3.heap.size = U at *
  go_wp2_with fail
  refine (E2 _).mono ?_
  rintro e w5 ⟨rfl, b5⟩
  have B5 := Lib.hid (below_step B4.out b5)
  have c0 := cell_step b5 c0
  have c1 := cell_step b5 c1
  have c2 := cell_step b5 c2
  clear b5 E2
  go_upto_region 6 with fail
  have al := (Below.refl w5.heap.size w5).alloc (Nat.le_refl _) (.cells #[.int .i64 x, .int .i64 y, .int .i64 z] 46)
  have d0 := (cell_new w5 #[.int .i64 x, .int .i64 y, .int .i64 z] 46 0).trans rfl
  have d1 := (cell_new w5 #[.int .i64 x, .int .i64 y, .int .i64 z] 46 1).trans rfl
  have d2 := (cell_new w5 #[.int .i64 x, .int .i64 y, .int .i64 z] 46 2).trans rfl
  have c0 := cell_step al c0
  have c1 := cell_step al c1
  have c2 := cell_step al c2
  have B6 := Lib.hid (below_step B5.out al)
  clear al
  generalize w5.alloc (.cells #[.int .i64 x, .int .i64 y, .int .i64 z] 46) = w6 at *
  generalize w5.heap.size = V at *
  have HC := Lib.hid (And.intro c0 (And.intro c1 (And.intro c2 (And.intro d0 (And.intro d1 d2)))))
  clear c0 c1 c2 d0 d1 d2
  go_wp2_with fail
  refine (alive15_any _).mono ?_
  rintro e w7 ⟨rfl, b7⟩
  obtain ⟨c0, c1, c2, d0, d1, d2⟩ := HC.out
  have c0 := cell_step b7 c0
  have c1 := cell_step b7 c1
  have c2 := cell_step b7 c2
  have d0 := cell_step b7 d0
  have d1 := cell_step b7 d1
  have d2 := cell_step b7 d2
  have B7 := Lib.hid (below_step B6.out b7)
  clear b7
  go_wp2_with fail
  go_ret
  exact ⟨by first | rfl | (cases ok <;> rfl) | (simp; done), B7.out⟩
theorem finds_small (i n b k c : Int) (h : 600 < n ∨ ¬ 600 < n ∧ 200 < k) (w : World) :
    Calls Try.prog 6 #[.int .i64 i, .agg #[.int .i64 n, .int .i64 b, .int .i64 k, .int .i64 c]] w fun e w' => e = .returned (.bool true) ∧ Below w.heap.size w w' := by
  have AL := Lib.hid (fun q => below_drewN ((Below.refl w.heap.size w).alloc (Nat.le_refl _) (.cells #[.int .i64 n, .int .i64 b, .int .i64 k, .int .i64 c] 41)) q)
  rcases h with h | h
  all_goals
    go_enter Try.func6, Try.ntmps6
    go_wp2_with fail
    go_quiet (fail)
    have B0 := Lib.hid (AL.out nq)
    generalize (World.drewN _ nq) = W2 at *
    go_wp2_with fail
    refine (alive15_any _).mono ?_
    rintro e w7 ⟨rfl, b7⟩
    go_wp2_with fail
    go_ret
    exact ⟨rfl, below_step B0.out b7⟩
theorem walk_finds (i n b k c : Int) (hi : -9223372036854775808 ≤ i ∧ i ≤ 9223372036854775807) (hn : -9223372036854775808 ≤ n ∧ n ≤ 9223372036854775807) (hb : -9223372036854775808 ≤ b ∧ b ≤ 9223372036854775807) (hk : -9223372036854775808 ≤ k ∧ k ≤ 9223372036854775807) (hc : -9223372036854775808 ≤ c ∧ c ≤ 9223372036854775807) (w : World) :
    Calls Try.prog 6 #[.int .i64 i, .agg #[.int .i64 n, .int .i64 b, .int .i64 k, .int .i64 c]] w fun e w' => e = .returned (.bool true) ∧ Below w.heap.size w w' := by
  by_cases hs : 600 < n ∨ ¬ 600 < n ∧ 200 < k
  · exact finds_small i n b k c hs w
  · have h1 : n ≤ 600 := by omega
    have h2 : k ≤ 200 := by omega
    by_cases hok : Ok5 i n b k c
    · obtain ⟨q, kk, m, lo, hI, sl, sh, L⟩ := lies_of hok
      have hL : ∀ W, Calls Try.prog 33 #[.int .i64 i, .int .i64 n, .int .i64 b, .int .i64 k, .int .i64 c] W fun e w' => e = .returned (.agg #[.int .i64 kk, .int .i64 m, .int .i64 ((i - sl) / c)]) ∧ Below W.heap.size W w' := fun W => by
        have ml := L.ml
        have mf := L.mf
        have mb := L.mb
        have bd := L.bds
        have e1 := L.hlo
        have e2 := L.hhi
        subst e2
        subst e1
        rw [L.kc]
        exact locate_ok i n b k c hok (by omega) hb.2 (by omega) hc.2 q L.hq m sl ⟨ml, mf, by rw [mb], by omega, by omega⟩ W
      have hne : ((kk : Int) == -1 && ((m : Int) == -1 && (i - sl) / c == -1)) = !true := by
        rw [show ((kk : Int) == -1) = false by simp]; rfl
      exact finds_walk i n b k c kk m ((i - sl) / c) true h1 h2 (fun W => find_any i n b k c _ _ _ true hL hne W) (fun W => refFind_ok i n b k c q kk m lo hI sl sh L hi (by omega) hb (by omega) hc.2 W) w
    · exact finds_walk i n b k c 0 0 0 false h1 h2 (fun W => find_any i n b k c (-1) (-1) (-1) false (fun W => locate_no i n b k c hok W) rfl W) (fun W => refFind_no i n b k c hok hi (by omega) hb W) w
end Go.Proofs.Ytpghiebedjogpaa
