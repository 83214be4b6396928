/- Layer 15: BucketCovers. -/
import Derived.Test.YtpghiebedjogpaaCovM
namespace Go.Proofs.Ytpghiebedjogpaa
open Go.RowKit
set_option linter.unusedVariables false
theorem neq_place (a b c : Int) (w : World) : (binOp .neq 43 (.agg #[.int .i64 a, .int .i64 b, .int .i64 c]) (.agg #[.int .i64 a, .int .i64 b, .int .i64 c])).run Try.prog w = .ok (.bool false) w := by
  rw [run_neq_struct, eq3 43 _ _ _ _ _ _ _ rfl (fun d x y => run_equalIn_agg w d 43 _ _ (by kernel_rfl) (by kernel_rfl))]
  simp
theorem elemI15 : Elem Try.prog 51 3 (.int .i64 0) 1 8 := ⟨Try.underlying51, info_parts (by kernel_rfl), rfl, by decide⟩
/-- what the law asks of Find at an index of a chunk -/
theorem find_covers {n b k c : Int} (hn : 0 ≤ n ∧ n ≤ 255) (hb : 1 ≤ b ∧ b ≤ 256) (hk : 1 ≤ k ∧ k ≤ 20) (hc : 1 ≤ c ∧ c ≤ 256) {j m t : Nat} {i : Int} (hj : j < (bucketsR n b).length) {lo hi : Int} (hlo : lo = cutB n b (j + 1)) (hhi : hi = cutB n b j) (hm : m < k.toNat) {sl sh : Int} (hsl : sl = bnd (hi - lo) k m + lo) (hsh : sh = bnd (hi - lo) k (m + 1) + lo)
    (ht1 : bl (sh - sl) c t + sl ≤ i) (ht2 : i < bl (sh - sl) c (t + 1) + sl) (W : World) :
    Calls Try.prog 21 #[.int .i64 i, .int .i64 n, .int .i64 b, .int .i64 k, .int .i64 c] W fun e w' => e = .returned (.tuple #[.agg #[.int .i64 j, .int .i64 m, .int .i64 t], .bool true]) ∧ Below W.heap.size W w' := by
  obtain ⟨q, kk, m', lo', hi', sl', sh', L, rfl, rfl, ht⟩ := place_is hn.1 hb.1 hk.1 hc.1 hj hlo hhi hm hsl hsh ht1 ht2
  have hL : ∀ W, Calls Try.prog 33 #[.int .i64 i, .int .i64 n, .int .i64 b, .int .i64 k, .int .i64 c] W fun e w' => e = .returned (.agg #[.int .i64 kk, .int .i64 m', .int .i64 t]) ∧ Below W.heap.size W w' := fun W => by
    have ml := L.ml
    have mf := L.mf
    have mb := L.mb
    have bd := L.bds
    have e1 := L.hlo
    have e2 := L.hhi
    rw [← ht]
    subst e2
    subst e1
    rw [L.kc]
    exact locate_ok i n b k c L.ok (by omega) (by omega) (by omega) (by omega) q L.hq m' sl' ⟨ml, mf, by rw [mb], by omega, by omega⟩ W
  exact find_any i n b k c _ _ _ true hL (by rw [show ((kk : Int) == -1) = false by simp]; rfl) W
theorem kept_list {W W' : World} {N n M : Nat} {e : TypeId} {v : Value} {xs : List Value} (h : W.ownsRow N e 2 v n xs) (hg : W.grownBy W' (some M)) (hM : M < N) : W'.ownsRow N e 2 v n xs := row_other h hg (fun k e => by cases e; exact hM)
theorem pair_cells {W : World} {N : Nat} {e : TypeId} {v : Value} {rs : List (Int × Int)} (h : W.ownsRow N e 2 v rs.length (rcells rs)) (j : Nat) (hj : j < rs.length) :
    ∃ g cap, v = .slice (some ⟨g, 0, none⟩) rs.length cap ∧ g < W.heap.size ∧ W.cell? ⟨g, j * 2, none⟩ = some (.int .i64 rs[j].1) ∧ W.cell? ⟨g, j * 2 + 1, none⟩ = some (.int .i64 rs[j].2) := by
  obtain ⟨g, cap, rfl, _, hg⟩ := own_some h (by omega)
  refine ⟨g, cap, rfl, hg, ?_, ?_⟩
  · rw [h.cellAt _ (by omega)]; exact (rcells_at rs j hj).1
  · rw [h.cellAt _ (by omega)]; exact (rcells_at rs j hj).2
set_option maxRecDepth 20000 in
set_option maxHeartbeats 8000000 in
theorem walk_covers (n s0 s1 s2 : Int) (hn : 0 ≤ n ∧ n ≤ 255) (h0 : 0 ≤ s0 ∧ s0 ≤ 255) (h1 : 0 ≤ s1 ∧ s1 ≤ 255) (h2 : 0 ≤ s2 ∧ s2 ≤ 255) (w : World) :
    Calls Try.prog 7 #[.int .u8 n, .agg #[.int .u8 s0, .int .u8 s1, .int .u8 s2]] w fun e w' => e = .returned (.bool true) ∧ Below w.heap.size w w' := by
  have AL := Lib.hid (fun q => below_drewN ((Below.refl w.heap.size w).alloc (Nat.le_refl _) (.cells #[.int .u8 s0, .int .u8 s1, .int .u8 s2] 50)) q)
  obtain ⟨p, rfl⟩ := Int.eq_ofNat_of_zero_le hn.1
  have hm := Int.emod_nonneg s1 (show (20 : Int) ≠ 0 by decide)
  have hm2 := Int.emod_lt_of_pos s1 (show (0 : Int) < 20 by decide)
  have u0 : IntKind.i64.wrap (p : Int) = p := IntWalk.i64_in _ (by omega)
  have u1 : IntKind.i64.wrap s0 = s0 := IntWalk.i64_in _ (by omega)
  have u2 : IntKind.i64.wrap s1 = s1 := IntWalk.i64_in _ (by omega)
  have u3 : IntKind.i64.wrap s2 = s2 := IntWalk.i64_in _ (by omega)
  go_enter Try.func7, Try.ntmps7
  go_wp2_with fail
  go_quiet (fail)
  have B0 := Lib.hid (AL.out nq)
  generalize (World.drewN _ nq) = W2 at *
  go_upto_region 2 with fail
  clear u0 u1 u2 u3 AL
  have hb : 1 ≤ 1 + s0 ∧ 1 + s0 ≤ 256 := by omega
  have hk : 1 ≤ 1 + s1 % 20 ∧ 1 + s1 % 20 ≤ 20 := by omega
  have hc : 1 ≤ 1 + s2 ∧ 1 + s2 ≤ 256 := by omega
  generalize 1 + s0 = b at *
  generalize 1 + s1 % 20 = k at *
  generalize 1 + s2 = c at *
  have hmk := run_make_elem elemI15 .i64 .i64 p (by omega) (by omega)
  have ho := owns_made (w := W2) (base := W2.heap.size) (e := 3) (size := 1) (n := p) (u := .int .i64 0) (z := #[.int .i64 0]) rfl (by decide) (Nat.le_refl _) (by unfold maxLen; omega)
  rw [← covL_zero, Nat.mul_one] at ho
  have R3 := Lib.hid ho
  have B3 := Lib.hid (below_alloc (o := .cells (madeCells #[.int .i64 0] p) 3) B0.out)
  have hM3 : W2.heap.size < (W2.alloc (.cells (madeCells #[.int .i64 0] p) 3)).heap.size := by simp
  have hwM : w.heap.size ≤ W2.heap.size := B0.out.size
  clear ho B0
  go_upto_region 3 with fail
  clear hmk
  generalize W2.alloc (.cells (madeCells #[.int .i64 0] p) 3) = W3 at *
  generalize W2.heap.size = M at *
  go_wp2_with fail
  refine (buckets_any (p : Int) b (by omega) (by omega) (by omega) (by omega) _).mono ?_
  rintro e W4 ⟨v, rfl, o4, b4⟩
  have O4 := Lib.hid o4
  have R4 := Lib.hid (own_below R3.out b4)
  have B4 := Lib.hid (below_step B3.out b4)
  have hBL := buckets_len (p : Int) b
  have hcr := cntB_range (p : Int) b
  have hC0 := cutB_zero (p : Int) b hn.1 hb.1
  have R4 := Lib.hid (show W4.ownsRow M 3 1 (.slice (some ⟨M, 0, none⟩) p p) p ((covL p (cutB p b 0) (cutB p b 0) (cutB p b 0)).map (Value.int .i64)) by rw [hC0]; exact R4.out)
  have G4 := Lib.hid (World.grownBy.refl W4 (some M))
  have HBL := Lib.hid hBL
  have hbl : (bucketsR p b).length ≤ 255 := by omega
  obtain ⟨a, cp, rfl⟩ := own_value o4
  clear o4 b4 hC0 hBL
  generalize W3.heap.size = N4 at *
  go_wp2_with fail
  go_loopw [43] (fun iv wr => ∃ j : Nat, j ≤ (bucketsR p b).length ∧ iv = .int .i64 j ∧ Hid (wr.ownsRow M 3 1 (.slice (some ⟨M, 0, none⟩) p p) p ((covL p (cutB p b j) (cutB p b j) (cutB p b j)).map (Value.int .i64))) ∧ Hid (W4.grownBy wr (some M))) (fun iv _ => (bucketsR p b).length - (intOf iv).toNat)
  case atStart => exact ⟨0, Nat.zero_le _, rfl, R4, G4⟩
  case round =>
    obtain ⟨j, hj, rfl, RR, GG⟩ := hrel
    have OB := Lib.hid (kept_list O4.out GG.out hM3)
    by_cases hlt : j < (bucketsR p b).length
    · have hjc : j < (cntB p b).toNat := by rw [← HBL.out]; exact hlt
      obtain ⟨l0, l1, l2⟩ := cutB_step (p : Int) b hb.1 hn.1 j hjc
      obtain ⟨g, cp', e0, hg, c0, c1⟩ := pair_cells OB.out j hlt
      cases e0
      rw [bucket_get p b hn.1 hb.1 j hlt] at c0 c1
      have RL := Lib.hid (show wr.ownsRow M 3 1 (.slice (some ⟨M, 0, none⟩) p p) p ((covL p (cutB p b (j + 1)) (cutB p b (j + 1)) (cutB p b j)).map (Value.int .i64)) by rw [covL_none p (cutB p b (j + 1)) (cutB p b j)]; exact RR.out)
      generalize hlo : cutB p b (j + 1) = lo at *
      generalize hhi : cutB p b j = hi at *
      have HLO := Lib.hid hlo
      have HHI := Lib.hid hhi
      have hMw : M < wr.heap.size := (RR.out.lt M rfl).2
      clear hlo hhi RR
      go_upto_region 6 with fail
      have al := (Below.refl wr.heap.size wr).alloc (Nat.le_refl _) (.cells #[.int .i64 lo, .int .i64 hi] 33)
      have q := cells_two wr (.int .i64 lo) (.int .i64 hi) 33
      have R5 := Lib.hid (own_below RL.out al)
      have G5 := Lib.hid (grown_trans GG.out (grown_below al _))
      have hU5 : wr.heap.size < (wr.alloc (.cells #[.int .i64 lo, .int .i64 hi] 33)).heap.size := by simp
      obtain ⟨q0, q1⟩ := q
      clear al c0 c1 RL
      generalize wr.alloc (.cells #[.int .i64 lo, .int .i64 hi] 33) = w5 at *
      generalize wr.heap.size = U at *
      go_wp2_with fail
      refine (segments_any lo hi k l0 l1 (by omega) (by omega) (by omega) _).mono ?_
      rintro e w6 ⟨v, rfl, o6, b6⟩
      have O6 := Lib.hid o6
      have R6 := Lib.hid (own_below R5.out b6)
      have G6 := Lib.hid (grown_trans G5.out (grown_below b6 _))
      have q0 := cell_step b6 q0
      have q1 := cell_step b6 q1
      have Q6 := Lib.hid (And.intro q0 q1)
      have hSL := segR_length lo hi k l1 hk.1
      have HSLK := Lib.hid hSL
      obtain ⟨sb0, sb1, sb2⟩ := seg_bounds lo hi k l1 hk.1
      have SB1 := Lib.hid sb1
      have SB2 := Lib.hid sb2
      have R6 := Lib.hid (show w6.ownsRow M 3 1 (.slice (some ⟨M, 0, none⟩) p p) p ((covL p lo (bnd (hi - lo) k 0 + lo) hi).map (Value.int .i64)) by rw [sb0]; exact R6.out)
      have I6 := Lib.hid (World.grownBy.refl w6 (some M))
      obtain ⟨a6, cp6, rfl⟩ := own_value o6
      have hU6 : U < w6.heap.size := World.block_lt_of_cell? _ _ q0
      clear o6 b6 q0 q1 sb0 sb1 sb2
      have hM6 : M < w5.heap.size := by omega
      have hSLn : (segR lo hi k).length ≤ 20 := by omega
      clear hSL
      have HSG := Lib.hid (fun t ht => seg_get lo hi k l1 hk.1 t ht)
      generalize wr = wo at *
      go_wp2_with fail
      go_loopw [12, 52] (fun tot iv wr => ∃ (m : Nat) (T : Int), m ≤ (segR lo hi k).length ∧ iv = .int .i64 m ∧ tot = .int .i64 T ∧ 0 ≤ T ∧ T ≤ 256 * m ∧ Hid (T = msgR ((segR lo hi k).take m) c) ∧ Hid (wr.ownsRow M 3 1 (.slice (some ⟨M, 0, none⟩) p p) p ((covL p lo (bnd (hi - lo) k m + lo) hi).map (Value.int .i64))) ∧ Hid (w6.grownBy wr (some M))) (fun _ iv _ => (segR lo hi k).length - (intOf iv).toNat)
      case atStart => exact ⟨0, 0, Nat.zero_le _, rfl, rfl, Int.le_refl _, by omega, Lib.hid rfl, R6, I6⟩
      case round =>
        obtain ⟨m, T, hm', rfl, rfl, hT0, hT1, HT, RS, GS⟩ := hrel
        clear R6 I6
        have OS := Lib.hid (kept_list O6.out GS.out hM6)
        by_cases hmt : m < (segR lo hi k).length
        · have hmk : m < k.toNat := by have := HSLK.out; omega
          have sbm := SB2.out m hmk
          obtain ⟨gs, cps, e0, hgs, c0, c1⟩ := pair_cells OS.out m hmt
          cases e0
          rw [HSG.out m hmt] at c0 c1
          have HTN := Lib.hid (show msgR ((segR lo hi k).take (m + 1)) c = msgR ((segR lo hi k).take m) c + cntB (((segR lo hi k)[m]).2 - ((segR lo hi k)[m]).1) c by rw [List.take_succ_eq_append_getElem hmt, msgR_snoc])
          rw [HSG.out m hmt] at HTN
          generalize hsl : bnd (hi - lo) k m + lo = sl at *
          generalize hsh : bnd (hi - lo) k (m + 1) + lo = sh at *
          have HSLo := Lib.hid hsl
          have HSHi := Lib.hid hsh
          have hss : sl ≤ sh := by omega
          have hMx : M < wr.heap.size := (RS.out.lt M rfl).2
          clear hsl hsh
          go_upto_region 10 with fail
          have al := (Below.refl wr.heap.size wr).alloc (Nat.le_refl _) (.cells #[.int .i64 sl, .int .i64 sh] 33)
          have q := cells_two wr (.int .i64 sl) (.int .i64 sh) 33
          have R7 := Lib.hid (own_below RS.out al)
          have G7 := Lib.hid (grown_trans GS.out (grown_below al _))
          have hV7 : wr.heap.size < (wr.alloc (.cells #[.int .i64 sl, .int .i64 sh] 33)).heap.size := by simp
          obtain ⟨q0, q1⟩ := q
          clear al c0 c1 RS
          generalize wr.alloc (.cells #[.int .i64 sl, .int .i64 sh] 33) = w7 at *
          generalize wr.heap.size = V at *
          go_wp2_with fail
          refine (chunks_any sl sh c (by omega) hss (by omega) (by omega) (by omega) _).mono ?_
          rintro e w8 ⟨v, rfl, o8, b8⟩
          have O8 := Lib.hid o8
          have R8 := Lib.hid (own_below R7.out b8)
          have G8 := Lib.hid (grown_trans G7.out (grown_below b8 _))
          have HCL := Lib.hid (chu_last sl sh c hss hc.1)
          have hcl := chu_len sl sh c
          have hcr2 := cntB_range (sh - sl) c
          have R8 := Lib.hid (show w8.ownsRow M 3 1 (.slice (some ⟨M, 0, none⟩) p p) p ((covL p lo (bl (sh - sl) c 0 + sl) hi).map (Value.int .i64)) by rw [bl_zero _ _ (by omega), Int.zero_add]; exact R8.out)
          have I8 := Lib.hid (World.grownBy.refl w8 (some M))
          obtain ⟨a8, cp8, rfl⟩ := own_value o8
          have hM8 : M < w7.heap.size := by omega
          have hcl2 : (chuR sl sh c).length ≤ 255 := by omega
          have HCN := Lib.hid (show ((chuR sl sh c).length : Int) = cntB (sh - sl) c by omega)
          have HCG := Lib.hid (fun t ht => chu_get sl sh c t ht)
          clear o8 b8 q0 q1 hcl hcr2
          generalize wr = ws at *
          go_wp2_with fail
          go_loopw [12, 61] (fun tot iv wr => ∃ t : Nat, t ≤ (chuR sl sh c).length ∧ iv = .int .i64 t ∧ tot = .int .i64 (T + t) ∧ Hid (wr.ownsRow M 3 1 (.slice (some ⟨M, 0, none⟩) p p) p ((covL p lo (bl (sh - sl) c t + sl) hi).map (Value.int .i64))) ∧ Hid (w8.grownBy wr (some M))) (fun _ iv _ => (chuR sl sh c).length - (intOf iv).toNat)
          case atStart => exact ⟨0, Nat.zero_le _, rfl, by go_num, R8, I8⟩
          case round =>
            obtain ⟨t, ht', rfl, rfl, RC, GC⟩ := hrel
            clear R8 I8
            have OC := Lib.hid (kept_list O8.out GC.out hM8)
            by_cases htt : t < (chuR sl sh c).length
            · obtain ⟨gc, cpc, e0, hgc, c0, c1⟩ := pair_cells OC.out t htt
              cases e0
              rw [HCG.out t htt] at c0 c1
              have bst := bl_step (sh - sl) c hc.1 (by omega) t
              have HFC := Lib.hid (fun i h1 h2 W => find_covers (i := i) hn hb hk hc hlt HLO.out.symm HHI.out.symm hmk HSLo.out.symm HSHi.out.symm (t := t) h1 h2 W)
              generalize hrl : bl (sh - sl) c t + sl = rl at *
              generalize hrh : bl (sh - sl) c (t + 1) + sl = rh at *
              have HRH := Lib.hid hrh
              have hrr : rl ≤ rh := by omega
              have hrl0 : lo ≤ rl := by omega
              have hrh0 : rh ≤ hi := by omega
              have hMy : M < wr.heap.size := (RC.out.lt M rfl).2
              clear hrl hrh bst
              go_upto_region 14 with fail
              have al := (Below.refl wr.heap.size wr).alloc (Nat.le_refl _) (.cells #[.int .i64 rl, .int .i64 rh] 33)
              have q := cells_two wr (.int .i64 rl) (.int .i64 rh) 33
              have R9 := Lib.hid (own_below RC.out al)
              have G9 := Lib.hid (grown_trans GC.out (grown_below al _))
              have hR9 : wr.heap.size < (wr.alloc (.cells #[.int .i64 rl, .int .i64 rh] 33)).heap.size := by simp
              obtain ⟨q0, q1⟩ := q
              have Q9 := Lib.hid q1
              have I9 := Lib.hid (World.grownBy.refl (wr.alloc (.cells #[.int .i64 rl, .int .i64 rh] 33)) (some M))
              clear al c0 c1 RC q1
              generalize wr.alloc (.cells #[.int .i64 rl, .int .i64 rh] 33) = w9 at *
              generalize wr.heap.size = Rb at *
              generalize wr = wc at *
              go_wp2_with fail
              clear q0
              go_loopw [17] (fun iv wr => ∃ i : Int, rl ≤ i ∧ i ≤ rh ∧ iv = .int .i64 i ∧ Hid (wr.ownsRow M 3 1 (.slice (some ⟨M, 0, none⟩) p p) p ((covL p lo i hi).map (Value.int .i64))) ∧ Hid (w9.grownBy wr (some M))) (fun iv _ => (rh - intOf iv).toNat)
              case atStart => exact ⟨rl, Int.le_refl _, hrr, rfl, R9, I9⟩
              case round =>
                obtain ⟨i, hi1, hi2, rfl, RI, GI⟩ := hrel
                clear R9 I9
                have b1 := (grown_cell (o := 1) GI.out hR9 (show Rb ≠ M by omega)).trans Q9.out
                have hRw : Rb < wr.heap.size := World.block_lt_of_cell? _ _ b1
                by_cases hir : i < rh
                · obtain ⟨x, rfl⟩ := Int.eq_ofNat_of_zero_le (show 0 ≤ i by omega)
                  have hxp : x < p := by omega
                  have cx := (RI.out.cellAt x (by omega)).trans (by rw [List.getElem?_map, covL_at p lo x hi x hxp (Int.le_refl _) (by omega)]; rfl : _ = some (Value.int .i64 0))
                  have fx := RI.out.frozenAt x
                  have st := RI.out.stored x (.int .i64 1)
                  rw [covL_set p lo hi x (by omega)] at st
                  have R10 := Lib.hid st.1
                  have G10 := Lib.hid (grown_trans GI.out st.2)
                  have hMw2 : M < wr.heap.size := World.block_lt_of_cell? _ _ cx
                  have HFI := Lib.hid (fun W => HFC.out x hi1 hir W)
                  have x1 : (x : Int) < (p : Int) := by omega
                  clear st
                  go_upto_region 20 with fail
                  generalize wr.setCell ⟨M, x, none⟩ (.int .i64 1) = w10 at *
                  clear cx fx b1
                  have HNQ := fun W => neq_place j m t W
                  go_wp2_with fail
                  refine (HFI.out _).mono ?_
                  rintro e w11 ⟨rfl, b11⟩
                  have R11 := Lib.hid (own_below R10.out b11)
                  have G11 := Lib.hid (grown_trans G10.out (grown_below b11 _))
                  have al := (Below.refl w11.heap.size w11).alloc (Nat.le_refl _) (.cells #[.int .i64 j, .int .i64 m, .int .i64 t] 43)
                  have R12 := Lib.hid (own_below R11.out al)
                  have G12 := Lib.hid (grown_trans G11.out (grown_below al _))
                  clear b11 al HFI
                  go_wp2_with fail
                  go_roundw
                  case rel => exact ⟨(x : Int) + 1, by omega, by omega, by first | rfl | go_num, R12, G12⟩
                  case measure => simp [intOf]; omega
                · have hie : i = rh := by omega
                  subst hie
                  have GC2 := Lib.hid (grown_trans G9.out GI.out)
                  go_wp2_with fail
                  go_roundw
                  case rel => exact ⟨t + 1, by omega, by go_num, by go_num, Lib.hid (by rw [HRH.out]; exact RI.out), GC2⟩
                  case measure => simp [intOf]; omega
            · have hte : t = (chuR sl sh c).length := by omega
              subst hte
              have GS2 := Lib.hid (grown_trans G8.out GC.out)
              have RS2 := Lib.hid (show wr.ownsRow M 3 1 (.slice (some ⟨M, 0, none⟩) p p) p ((covL p lo (bnd (hi - lo) k (m + 1) + lo) hi).map (Value.int .i64)) by rw [HSHi.out, ← HCL.out]; exact RC.out)
              have HT2 := Lib.hid (show T + ((chuR sl sh c).length : Int) = msgR ((segR lo hi k).take (m + 1)) c by rw [HTN.out, ← HT.out, HCN.out, ← HSHi.out, ← HSLo.out])
              go_wp2_with fail
              go_roundw
              case rel => exact ⟨m + 1, T + ((chuR sl sh c).length : Int), by omega, by go_num, rfl, by omega, by omega, HT2, RS2, GS2⟩
              case measure => simp [intOf]; omega
        · have hme : m = (segR lo hi k).length := by omega
          subst hme
          have e0 := (grown_cell (o := 0) GS.out hU6 (show U ≠ M by omega)).trans Q6.out.1
          have e1 := (grown_cell (o := 1) GS.out hU6 (show U ≠ M by omega)).trans Q6.out.2
          have hUw : U < wr.heap.size := World.block_lt_of_cell? _ _ e0
          have HTT := Lib.hid (show T = msgR (segR lo hi k) c by rw [HT.out, List.take_length])
          have HMS := Lib.hid (fun W => messages_any lo hi k c l0 l1 (by omega) (by omega) (by omega) (by omega) (by omega) W)
          rw [← HTT.out] at HMS
          go_wp2_with fail
          refine (HMS.out _).mono ?_
          rintro e w13 ⟨rfl, b13⟩
          have RO := Lib.hid (show w13.ownsRow M 3 1 (.slice (some ⟨M, 0, none⟩) p p) p ((covL p (cutB p b (j + 1)) (cutB p b (j + 1)) (cutB p b (j + 1))).map (Value.int .i64)) by
            rw [HLO.out, ← covL_full p lo hi l1]
            have := own_below RS.out b13
            rw [HSLK.out, SB1.out] at this
            exact this)
          have GO := Lib.hid (grown_trans G6.out (grown_trans GS.out (grown_below b13 _)))
          clear b13 e0 e1
          go_wp2_with fail
          go_roundw
          case rel => exact ⟨j + 1, by omega, by go_num, RO, GO⟩
          case measure => simp [intOf]; omega
    · have hje : j = (bucketsR p b).length := by omega
      subst hje
      have RZ := Lib.hid (show wr.ownsRow M 3 1 (.slice (some ⟨M, 0, none⟩) p p) p ((covL p 0 0 0).map (Value.int .i64)) by
        have := RR.out
        rw [cutB_end p b hn.1 _ (by rw [HBL.out]; exact Nat.le_refl _)] at this
        exact this)
      have BZ := Lib.hid (B4.out.grown GG.out B4.out.size (fun q e => by cases e; exact hwM))
      clear RR
      have HBA := Lib.hid (fun W => buckets_any (p : Int) b (by omega) (by omega) (by omega) (by omega) W)
      have HRB := Lib.hid (fun W => refBuckets_any (p : Int) b (by omega) (by omega) (by omega) (by omega) W)
      generalize wr = wz at *
      go_wp2_with fail
      go_loopw [119] (fun iv wr => ∃ x : Nat, x ≤ p ∧ iv = .int .i64 x ∧ wr = wz) (fun iv _ => p - (intOf iv).toNat)
      case atStart => exact ⟨0, Nat.zero_le _, rfl, rfl⟩
      case round =>
        obtain ⟨x, hx, rfl, rfl⟩ := hrel
        by_cases hxp : x < p
        · have cx := (RZ.out.cellAt x (by omega)).trans (by rw [List.getElem?_map, covL_all p x hxp]; rfl : _ = some (Value.int .i64 1))
          have hMw3 : M < wr.heap.size := World.block_lt_of_cell? _ _ cx
          go_wp2_with fail
          go_roundw
          case rel => exact ⟨x + 1, by omega, by go_num, by trivial⟩
          case measure => simp [intOf]; omega
        · have hxe : x = p := by omega
          subst hxe
          generalize (bucketsR (x : Int) b) = bs at HBA HRB
          go_wp2_with fail
          refine (alive15_any _).mono ?_
          rintro e w20 ⟨rfl, b20⟩
          have B20 := Lib.hid (below_step BZ.out b20)
          clear b20
          go_wp2_with fail
          refine (HRB.out _).mono ?_
          rintro e w21 ⟨v1, rfl, o21, b21⟩
          have B21 := Lib.hid (below_step B20.out b21)
          obtain ⟨a21, c21, rfl⟩ := own_value o21
          clear b21 o21
          go_wp2_with fail
          refine (HBA.out _).mono ?_
          rintro e w22 ⟨v2, rfl, o22, b22⟩
          have B22 := Lib.hid (below_step B21.out b22)
          obtain ⟨a22, c22, rfl⟩ := own_value o22
          clear b22 o22
          go_wp2_with fail
          go_ret
          exact ⟨by first | rfl | (simp; done), B22.out⟩
end Go.Proofs.Ytpghiebedjogpaa
