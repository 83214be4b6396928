/- A stream's own draws; a nil stream; DrawKeeps. -/
import Derived.Test.YtognfmkabjngnaaDrawS
import Derived.Laws.OwnMore
namespace Go.Proofs.Ytognfmkabjngnaa
open Go.RowKit
set_option linter.unusedVariables false
/-- append of a list to a row of the call's own, inside a fence -/
theorem append_listIn {F : Fence} {d : Nat} {P : Program} {ops : Array Oper} {rest : List Oper} {o : Oper} {a : Act} {Q : Exit → Act → World → Prop} {W : World} {t e : TypeId} {z : Value} {size bytes base n m : Nat} {v u : Value} {xs ys : List Value}
    (hE : Elem P t e z size bytes) (hgd : o.guard = none) (s x : Operand) (ho : o.op = .call { callee := .builtin .append, args := #[s, x], argTypes := #[t, t] })
    (hs : a.eval s = v) (hx : a.eval x = u) (hown : W.ownsRow base e size v n xs) (hl : ys.length = m * size)
    (hsrc : (u = .slice none 0 0 ∧ ys = []) ∨ ∃ ad c, u = .slice (some ad) m c ∧ ∀ j y, ys[j]? = some y → W.cell? (ad.add j) = some y)
    (h1 : ∀ y ∈ ys, y.oneCell' = true) (h63 : n + m ≤ maxLen) (hbytes : (n + m) * bytes ≤ 140737488355328) (hbase : base ≤ W.heap.size)
    (h : ∀ v' w', w'.ownsRow base e size v' (n + m) (xs ++ ys) → W.grownBy w' v.ownBlock → wpListIn F d P ops Q rest (a.put o.dst v') w') : wpListIn F d P ops Q (o :: rest) a W := by
  obtain ⟨i, hi, hz0, hz1, hz2⟩ := hE.hi
  rcases hsrc with ⟨rfl, rfl⟩ | ⟨ad, c, rfl, hc⟩
  · have hm : m = 0 := by
      have := hE.hsz
      rcases Nat.eq_zero_or_pos m with h0 | h0
      · exact h0
      · have := Nat.mul_pos h0 hE.hsz
        simp at hl
        omega
    subst hm
    refine wpListIn_plain hgd fun K hK => ?_
    have hrun := run_append_owned_none (P := P) (w := W) base t o.type e i size hE.ht hi v n xs hown
    unfold Oper.wpIn
    refine ⟨?_, ?_⟩
    · simp [Oper.about, ho, resolve, Target.leads, Sem.run_pure]
    · rw [Oper.semAt_plain F _ _ (by rw [ho]; intro c hc'; cases hc')]
      simp [execOp, ho, resolve, invoke, builtin, hs, hx, hrun, Result.andThen]
      exact hK _ _ (h v W (by simpa using hown) (World.grownBy.refl _ _))
  · exact wpListIn_append_own W hgd s x t ho base e i z size bytes hE.ht hi hz0 hz1 hz2 hE.hzs hE.hsz v n xs hs hown ad m c ys hx hl hc h1 h63 hbytes hbase fun v' w' h2 h3 _ => h v' w' h2 h3
theorem elemU : Elem Try.prog 22 33 (.int .u64 0) 1 8 := ⟨Try.underlying22, info_parts (by kernel_rfl), rfl, by decide⟩
theorem ints_lt {w w0 : World} {b base : Nat} {e : TypeId} {u : Value} {zs : List Int} (h : w.ownsRow base e 1 u zs.length (zs.map (Value.int .u64))) (h0 : IntsAt .u64 b w0 u zs) : IntsAt .u64 b w u zs := by
  obtain ⟨hl, ⟨rfl, hn⟩ | ⟨g, off, cap, rfl, hn, hb, hc⟩⟩ := (IntsAt.of_owns (n := zs.length) rfl h : IntsAt .u64 w.heap.size w u zs)
  · exact ⟨hl, .inl ⟨rfl, hn⟩⟩
  · obtain ⟨hl0, ⟨e0, _⟩ | ⟨g', off', cap', e0, _, hb', _⟩⟩ := h0
    · cases e0
    · cases e0
      exact ⟨hl, .inr ⟨g, off, cap, rfl, hn, hb', hc⟩⟩
/-- a new stream, with what it owns -/
def NewOwn (zs : List Int) (w : World) (e : Ending) (w' : World) : Prop := ∃ b u, e = .returned (.pointer (some ⟨b, 0, none⟩)) ∧ w.heap.size ≤ b ∧ Two w' b 46 u (.int .i64 ((0 : Nat) : Int)) ∧ w'.ownsRow w.heap.size 33 1 u zs.length (zs.map (Value.int .u64)) ∧ IntsAt .u64 b w' u zs ∧ Below w.heap.size w w'
theorem new_own (v : Value) (zs : List Int) (hm : zs.length * 8 ≤ 140737488351232) (w : World) (hL : IntsAt .u64 w.heap.size w v zs) :
    Calls Try.prog 5 #[v] w (NewOwn zs w) := by
  obtain ⟨a, len, cap, rfl⟩ : ∃ a len cap, v = .slice a len cap := by
    rcases hL.form with ⟨e, _⟩ | ⟨b, off, cap, e, _⟩ <;> exact ⟨_, _, _, e⟩
  go_enter Try.func5, Try.ntmps5
  go_wp2_with fail
  refine (clone_u64 _ _ _ zs hm _ hL).mono ?_
  rintro e w1 ⟨u, rfl, ho, h1⟩
  have HO := Lib.hid ho
  have hU := Lib.hid (IntsAt.of_owns (q := .u64) (zs := zs) rfl ho)
  clear ho
  obtain ⟨a', len', cap', rfl⟩ : ∃ a len cap, u = .slice a len cap := by
    rcases hU.out.form with ⟨e, _⟩ | ⟨b, off, cap, e, _⟩ <;> exact ⟨_, _, _, e⟩
  go_wp2
  go_ret
  exact ⟨_, _, rfl, h1.size, Two.new _ _ _ _, HO.out.alloc _, hU.out.below ((Below.refl _ _).alloc (Nat.le_refl _) _), h1.alloc h1.size _⟩
theorem next_nil (w : World) : Calls Try.prog 7 #[.pointer none, .int .i64 1] w fun e w' => e = .returned (.tuple #[.int .i64 0, .bool false]) ∧ Below w.heap.size w w' := by
  go_enter Try.func7, Try.ntmps7
  go_wp2_with fail
  refine (left_nil _).mono ?_
  rintro e w1 ⟨rfl, b1⟩
  go_wp2_with fail
  go_ret2
  exact ⟨rfl, b1⟩
theorem many_nil (w : World) : Calls Try.prog 11 #[.pointer none, .slice none 0 0] w fun e w' => e = .returned (.tuple #[.slice none 0 0, .bool false]) ∧ Below w.heap.size w w' := by
  go_enter Try.func11, Try.ntmps11
  go_wp2_with fail
  go_ret2
  exact ⟨rfl, Below.refl _ _⟩
theorem ints_one {q : IntKind} {zs : List Int} : ∀ y ∈ zs.map (Value.int q), y.oneCell' = true := by
  intro y hy
  simp only [List.mem_map] at hy
  obtain ⟨z, _, rfl⟩ := hy
  rfl
theorem ints_src {n₀ : Nat} {w : World} {v : Value} {zs : List Int} (h : IntsAt .u64 n₀ w v zs) :
    (v = .slice none 0 0 ∧ zs.map (Value.int .u64) = []) ∨ ∃ ad c, v = .slice (some ad) zs.length c ∧ ∀ j y, (zs.map (Value.int .u64))[j]? = some y → w.cell? (ad.add j) = some y := by
  obtain ⟨hl, ⟨rfl, hn⟩ | ⟨b, off, cap, rfl, hn, hb, hc⟩⟩ := h
  · exact .inl ⟨rfl, by rw [List.length_eq_zero_iff.1 hn]; rfl⟩
  · exact .inr ⟨_, cap, rfl, fun j u hj => by rw [Go.WideShapes.add_plain]; exact hc j u hj⟩
/-- what stays the same, but for the place, through the loop over the draws -/
def KeepsW (BR Bw b : Nat) (v : Value) (zs : List Int) (k : Nat) (W : World) : Prop :=
  Boxed W BR 4 (.bool false) ∧ Two W Bw 27 v (.int .i64 k) ∧ StreamAt b W zs k
theorem KeepsW.step {BR Bw b : Nat} {v : Value} {zs : List Int} {k k' : Nat} {W W1 W2 : World} (h : KeepsW BR Bw b v zs k W) (hs : StreamAt b W1 zs k') (hg : W.grownBy W1 (some b)) (hb : Below W1.heap.size W1 W2)
    (n3 : BR ≠ b) (n4 : b < Bw) (m3 : BR < Bw) : KeepsW BR Bw b v zs k' ((W2.setCell ⟨Bw, 0, none⟩ v).setCell ⟨Bw, 1, none⟩ (.int .i64 k')) := by
  obtain ⟨hR, hw, hst⟩ := h
  have R1 := hR.kept hg (fun e => n3 (Option.some.inj e))
  have w1 := hw.kept hg (fun e => absurd (Option.some.inj e) (by omega))
  have R2 : Boxed W2 BR _ _ := (hb.block _ R1.lt).trans R1
  have w2 : Two W2 Bw _ _ _ := (hb.block _ w1.lt).trans w1
  have b2 : Below Bw W2 ((W2.setCell ⟨Bw, 0, none⟩ v).setCell ⟨Bw, 1, none⟩ (.int .i64 k')) := below_set (below_set (Below.refl _ _) (Nat.le_refl _)) (Nat.le_refl _)
  exact ⟨(b2.block _ m3).trans R2, w2.set _ _, (hs.later hb).below b2 n4⟩
section
attribute [local go_sem] Oper.semAt_some
set_option maxRecDepth 100000 in
set_option maxHeartbeats 2000000 in
theorem walk_keeps (v : Value) (zs : List Int) (hz : ∀ z ∈ zs, 0 ≤ z ∧ z < 18446744073709551616) (w : World) (hm : zs.length * 8 ≤ 140737488351232) (hv : IntsAt .u64 w.heap.size w v zs) :
    Calls Try.prog 4 #[v] w fun e w' => e = .returned (.bool true) ∧ Below w.heap.size w w' := by
  have bA := ((Below.refl w.heap.size w).alloc (Nat.le_refl _) (.cells #[.bool false] 4))
  have bB := bA.alloc (by simp) (.cells #[] 33)
  have BB := Lib.hid bB
  have SRC := Lib.hid (ints_src (hv.below bB))
  have HO0 := World.ownsRow_made (base := w.heap.size + 1) (e := 33) (size := 1) (w.alloc (.cells #[.bool false] 4)) #[] 0 (by simp) (Nat.zero_le _) (by simp)
  simp only [World.size_alloc] at HO0
  have HO := Lib.hid HO0
  have br0 := Lib.hid ((Boxed.new w 4 (.bool false)).alloc (.cells #[] 33))
  have hsz : ((w.alloc (.cells #[.bool false] 4)).alloc (.cells #[] 33)).heap.size = w.heap.size + 2 := by simp
  have HSZ := Lib.hid hsz
  have HV := Lib.hid hv
  have HZ := Lib.hid hz
  obtain ⟨a, cap, rfl⟩ := ints_value hv
  clear bA bB HO0 hv hz hsz
  refine (callsIn_wide (n := 8)).1 ?_
  refine callsIn_of_wp_marks Try.func4 rfl trivial ?_ rfl
  simp only [Try.ntmps4, List.size_toArray, List.length_cons, List.length_nil, Nat.reduceAdd, Nat.reduceSub, Array.replicate_succ, Array.replicate_zero, List.push_toArray, List.append_toArray, List.nil_append, List.cons_append]
  gi_wp2_with (gi_at_builtin; refine append_listIn elemU rfl _ _ rfl rfl rfl HO.out (by simp) SRC.out ints_one ?_ ?_ ?_ ?_; (unfold maxLen; omega); omega; (rw [HSZ.out]; omega); intro v' w1 ho' hg'; have O1 := Lib.hid ho'; have G1 := Lib.hid (show ((w.alloc (.cells #[.bool false] 4)).alloc (.cells #[] 33)).grownBy w1 (some (w.heap.size + 1)) from hg'); clear ho' hg')
  refine ⟨trivial, ?_⟩
  have ho2 : w1.ownsRow (w.heap.size + 1) 33 1 v' zs.length (zs.map (Value.int .u64)) := by simpa using O1.out
  obtain ⟨a2, c2, rfl⟩ := own_value ho2
  have hgb : ∀ k, (Value.slice a2 zs.length c2).ownBlock = some k → w.heap.size + 1 ≤ k ∧ k < w1.heap.size := fun k e => ho2.lt k e
  have bw1 : Below w.heap.size w w1 := BB.out.grown G1.out (by rw [HSZ.out]; omega) (fun k e => by cases e; omega)
  have br1 : Boxed w1 _ _ _ := br0.out.kept G1.out (fun e => absurd (Option.some.inj e) (by omega))
  have hs1 : w.heap.size + 2 ≤ w1.heap.size := by have := G1.out.size; rw [HSZ.out] at this; exact this
  have HO2 := Lib.hid ho2
  clear O1 G1 HO BB SRC br0
  refine (callsIn_wide.2 (new_own _ zs hm w1 (IntsAt.of_owns rfl ho2))).mono ?_
  clear ho2
  rintro e w2 ⟨b, u, rfl, hb, tw, hu, hi, b2⟩
  have br2 : Boxed w2 _ _ _ := (b2.block _ br1.lt).trans br1
  have BW2 := Lib.hid (bw1.trans (b2.mono (by omega)))
  have O2 := Lib.hid (own_below HO2.out b2)
  have TW2 := Lib.hid tw
  have U2 := Lib.hid hu
  have I2 := Lib.hid hi
  have HGB := Lib.hid hgb
  have hbl := tw.lt
  have hs2 := b2.size
  have l3 := br2.lt
  have c3 := br2.cell
  have c3f := br2.frozen
  have BR2 := Lib.hid br2
  clear tw hu hi b2 hgb br1 bw1 br2 HO2 HSZ
  by_cases h1 : 300 < zs.length
  · have e1 : decide ((300 : Int) < zs.length) = true := by simp; omega
    gi_wp2_with fail
    refine ⟨trivial, ?_⟩
    refine (callsIn_wide.2 (alive_any _)).mono ?_
    rintro e w5 ⟨rfl, b5⟩
    have br5 : Boxed w5 _ _ _ := (b5.block _ l3).trans BR2.out
    have q1 := br5.cell
    have q2 := br5.frozen
    have hB5 := BW2.out.trans (b5.mono BW2.out.size)
    clear b5
    gi_wp2_with fail
    have E0 : (w5.setCell ⟨w.heap.size, 0, none⟩ (.bool true)).cell? ⟨w.heap.size, 0, none⟩ = some (.bool true) := World.cell?_setCell_same _ _ _ q1
    exact ⟨.bool true, by simp [results, Try.results4, E0, go_sem], rfl, below_set hB5 (by omega)⟩
  · have e1 : decide ((300 : Int) < zs.length) = false := by simp; omega
    gi_wp2_with fail
    gi_loopw [5, 36] (fun _ i wr => ∃ (j : Nat) (ys : List Int), j ≤ zs.length ∧ i = .int .i64 j ∧ ys.length = zs.length ∧ wr.ownsRow (w.heap.size + 1) 33 1 (.slice a2 zs.length c2) zs.length (ys.map (Value.int .u64)) ∧ w2.grownBy wr (Value.slice a2 zs.length c2).ownBlock) (fun _ i _ => zs.length - (intOf i).toNat)
    case atStart => exact ⟨0, zs, Nat.zero_le _, rfl, rfl, O2.out, World.grownBy.refl _ _⟩
    case round =>
      obtain ⟨j, ys, hj, rfl, hyl, hrow, hg⟩ := hrel
      by_cases hlt : j < zs.length
      · obtain ⟨g, c, e0, hgl, hgw⟩ := own_some hrow (by omega)
        cases e0
        have rc := hrow.cellAt j (by omega)
        have rf := hrow.frozenAt j
        obtain ⟨y, hy⟩ : ∃ y, ys[j]? = some y := ⟨_, List.getElem?_eq_getElem (by omega)⟩
        rw [List.getElem?_map, hy, Option.map_some] at rc
        have hdec : decide ((j : Int) < (zs.length : Int)) = true := by simp; omega
        have i0 : (0 : Int) ≤ (j : Int) := by omega
        have i1 : (j : Int) < (zs.length : Int) := by omega
        have HY := Lib.hid hyl
        have ST := Lib.hid (hrow.stored j (.int .u64 (IntKind.u64.wrap (y + 1))))
        have HG := Lib.hid hg
        have hset : (ys.map (Value.int .u64)).set j (.int .u64 (IntKind.u64.wrap (y + 1))) = (ys.set j (IntKind.u64.wrap (y + 1))).map (Value.int .u64) := (List.map_set).symm
        have HSET := Lib.hid hset
        clear hrow hg hset hyl hy
        gi_wp2_with fail
        go_roundw
        case rel => exact ⟨j + 1, _, by omega, by go_num, by rw [List.length_set]; exact HY.out, HSET.out ▸ ST.out.1, grown_trans HG.out ST.out.2⟩
        case measure => simp [intOf]; omega
      · have hje : j = zs.length := by omega
        subst hje
        have hdec : decide ((zs.length : Int) < (zs.length : Int)) = false := by simp
        have hgr : ∀ k, (Value.slice a2 zs.length c2).ownBlock = some k → k < w1.heap.size := fun k e => (HGB.out k e).2
        have TWr := Lib.hid (TW2.out.kept hg (fun e => absurd (hgr b e.symm) (by omega)))
        have Ur := Lib.hid (row_other U2.out hg hgr)
        have BRr := Lib.hid (BR2.out.kept hg (fun e => absurd (HGB.out _ e.symm).1 (by omega)))
        have BWr := Lib.hid (BW2.out.grown hg BW2.out.size (fun k e => by have := (HGB.out k e).1; omega))
        obtain ⟨t0, t1, tf0, tf1⟩ := TWr.out.cells
        have STr := Lib.hid (show StreamAt b wr zs 0 from ⟨TWr.out.lt, Nat.zero_le _, u, t0, t1, tf1, ints_lt Ur.out I2.out⟩)
        have hwr := hg.size
        clear t0 t1 tf0 tf1 hrow hg hgr hyl c3 c3f
        gi_wp2_with fail
        have bA := (Below.refl wr.heap.size wr).alloc (Nat.le_refl _) (.cells #[.slice a zs.length cap, .int .i64 ((0 : Nat) : Int)] 27)
        have HK := Lib.hid (show KeepsW w.heap.size wr.heap.size b (.slice a zs.length cap) zs 0 (wr.alloc (.cells #[.slice a zs.length cap, .int .i64 ((0 : Nat) : Int)] 27)) from ⟨BRr.out.alloc _, Two.new _ _ _ _, STr.out.later bA⟩)
        have HB := Lib.hid (BWr.out.trans (bA.mono BWr.out.size))
        clear bA TWr Ur BRr BWr STr I2 U2 TW2 O2 BR2
        have hbBw : b < wr.heap.size := by omega
        generalize hBw : wr.heap.size = Bw at *
        gi_loopw [7, 8, 9, 10, 11, 50] (fun _ _ _ _ _ i wr => ∃ j k : Nat, j ≤ zs.length ∧ i = .int .i64 j ∧ KeepsW w.heap.size Bw b (.slice a zs.length cap) zs k wr ∧ Below w.heap.size w wr) (fun _ _ _ _ _ i _ => zs.length - (intOf i).toNat)
        case atStart => exact ⟨0, 0, Nat.zero_le _, rfl, HK.out, HB.out⟩
        case round =>
          obtain ⟨j, k, hj, rfl, hK, hB⟩ := hrel
          have HKr := Lib.hid hK
          have HBr := Lib.hid hB
          obtain ⟨kR, kw, kst⟩ := hK
          by_cases hlt : j < zs.length
          · have hE : decide ((j : Int) < (zs.length : Int)) = true := by simp; omega
            have HST := Lib.hid kst
            clear kR hB kst
            gi_wp2_with fail
            refine ⟨trivial, ?_⟩
            refine (callsIn_wide.2 (next_any b zs HZ.out k (by omega) 1099511627776 (by omega) _ HST.out)).mono ?_
            rintro e w5 ⟨rfl, s5, g5⟩
            have aw5 := kw.kept g5 (fun e => absurd (Option.some.inj e) (by omega))
            obtain ⟨x0, x1, y0, y1⟩ := aw5.cells
            have hB5 := HBr.out.trans ((Grown.below g5 HST.out.1).mono (by omega))
            have hN := refNext_any (.slice a zs.length cap) zs HZ.out k (by omega) 1099511627776 (by omega) w5 ((HV.out.below hB5).grow hB5.size)
            have S5 := Lib.hid s5
            have G5 := Lib.hid g5
            have AW5 := Lib.hid aw5
            have HB5 := Lib.hid hB5
            clear s5 g5 hB5 kw aw5
            generalize nextR zs k 1099511627776 = R at *
            obtain ⟨x, okb, k2⟩ := R
            simp only at hN S5
            have HN := Lib.hid hN
            clear hN
            gi_wp2_with fail
            refine ⟨trivial, ?_⟩
            refine (callsIn_wide.2 HN.out).mono ?_
            rintro e w6 ⟨rfl, b6⟩
            unfold RefSt
            have aw6 : Two w6 _ _ _ _ := (b6.block _ AW5.out.lt).trans AW5.out
            have aw7 : Two (w6.alloc (.cells #[.slice a zs.length cap, .int .i64 (k2 : Int)] 27)) _ _ _ _ := aw6.kept (World.grownBy_alloc _ _ none) (by simp)
            obtain ⟨x0, x1, y0, y1⟩ := aw7.cells
            have q01 := cells_two w6 (.slice a zs.length cap) (.int .i64 (k2 : Int)) 27
            obtain ⟨q0, q1⟩ := q01
            have B7 := Lib.hid (b6.alloc b6.size (.cells #[.slice a zs.length cap, .int .i64 (k2 : Int)] 27))
            clear b6 aw6 aw7
            gi_wp2_with fail
            have NW := HKr.out.step S5.out G5.out B7.out (by omega) (by omega) (by omega)
            have NB := (HB5.out.trans (B7.out.mono HB5.out.size)).trans ((below_set (below_set (Below.refl Bw (w6.alloc (.cells #[.slice a zs.length cap, .int .i64 (k2 : Int)] 27))) (Nat.le_refl _) (x := .slice a zs.length cap) (o := 0)) (Nat.le_refl _) (x := .int .i64 k2) (o := 1)).mono (by omega))
            go_roundw
            case rel => exact ⟨j + 1, k2, by omega, by go_num, NW, NB⟩
            case measure => simp [intOf]; omega
          · have hE : decide ((j : Int) < (zs.length : Int)) = false := by simp; omega
            have BRk := Lib.hid kR
            clear kw hB kst kR HKr
            gi_wp2_with fail
            refine ⟨trivial, ?_⟩
            refine (callsIn_wide.2 (next_nil _)).mono ?_
            rintro e w5 ⟨rfl, b5⟩
            have R5 : Boxed w5 _ _ _ := (b5.block _ BRk.out.lt).trans BRk.out
            have B5 := Lib.hid (HBr.out.trans (b5.mono HBr.out.size))
            clear b5
            gi_wp2_with fail
            refine ⟨trivial, ?_⟩
            refine (callsIn_wide.2 (many_nil _)).mono ?_
            rintro e w6 ⟨rfl, b6⟩
            have R6 : Boxed w6 _ _ _ := (b6.block _ R5.lt).trans R5
            have B6 := Lib.hid (B5.out.trans (b6.mono B5.out.size))
            have hw6 := B6.out.size
            have hl6 := R6.lt
            clear b6 R5
            gi_wp2_with fail
            refine' wpIn_range_bound rfl (by omega) (gf := 9) (rb := #[.pointer none]) (lb := #[]) rfl trivial (enters_of Try.func9 (by kernel_rfl) rfl)
              (all_none 7 w6) (fun _ => rfl)
              (fun j W => Boxed W w.heap.size 4 (.bool false) ∧ Below w.heap.size w W) (fun _ _ _ => False)
              ?hI (fun _ _ _ _ _ h _ _ => h) (fun _ _ _ => trivial) ⟨R6, B6.out⟩ _ ?assign (fun _ _ _ h _ => absurd h (Nat.not_lt_zero _)) ?done (fun _ _ _ _ _ h _ => h.elim)
            case hI =>
              rintro j X Y row ⟨hn, hB⟩ hg hr
              have hb := (Below.refl (w.heap.size + 1) X).grown hg hn.lt (fun r e => by have := (hr r e).1; omega)
              exact ⟨(hb.block _ (by omega)).trans hn, hB.trans (hb.mono (by omega))⟩
            case assign =>
              intro l j W K hK
              gi_wp2
              exact hK
            case done =>
              rintro D W hD ⟨hn, hB⟩ hK
              have HNr := Lib.hid hn
              have HBq := Lib.hid hB
              clear hn hB
              gi_wp2_with fail
              refine ⟨trivial, ?_⟩
              refine (callsIn_wide.2 (alive_any _)).mono ?_
              rintro e W5 ⟨rfl, b5⟩
              have N5 := Lib.hid (show Boxed W5 _ _ _ from (b5.block _ HNr.out.lt).trans HNr.out)
              have K5 : W5.heap[D]? = some (.deferred (some [])) := (b5.block _ (Array.getElem?_eq_some_iff.1 hK).1).trans hK
              have B5 := Lib.hid (HBq.out.trans (b5.mono HBq.out.size))
              clear b5 hK
              gi_wp2_with fail
              refine ⟨trivial, ?_⟩
              refine (callsIn_wide.2 (left_nil _)).mono ?_
              rintro e W6 ⟨rfl, b6⟩
              have N6 := Lib.hid (show Boxed W6 _ _ _ from (b6.block _ N5.out.lt).trans N5.out)
              have K6 : W6.heap[D]? = some (.deferred (some [])) := (b6.block _ (Array.getElem?_eq_some_iff.1 K5).1).trans K5
              have B6 := Lib.hid (B5.out.trans (b6.mono B5.out.size))
              clear b6 K5
              gi_wp2_with fail
              refine ⟨trivial, ?_⟩
              refine (callsIn_wide.2 (used_nil _)).mono ?_
              rintro e W7 ⟨rfl, b7⟩
              have N7 := Lib.hid (show Boxed W7 _ _ _ from (b7.block _ N6.out.lt).trans N6.out)
              have K7 : W7.heap[D]? = some (.deferred (some [])) := (b7.block _ (Array.getElem?_eq_some_iff.1 K6).1).trans K6
              have B7 := Lib.hid (B6.out.trans (b7.mono B6.out.size))
              clear b7 K6
              gi_wp2_with fail
              refine ⟨trivial, ?_⟩
              refine (callsIn_wide.2 (clone_nil _)).mono ?_
              rintro e W8 ⟨rfl, b8⟩
              have r8 : Boxed W8 _ _ _ := (b8.block _ N7.out.lt).trans N7.out
              have K8 : W8.heap[D]? = some (.deferred (some [])) := (b8.block _ (Array.getElem?_eq_some_iff.1 K7).1).trans K7
              have B8 := Lib.hid (B7.out.trans (b8.mono B7.out.size))
              have c8 := r8.cell
              have f8 := r8.frozen
              clear b8 K7
              gi_wp2_with fail
              have K9 := (KeepsOthers.setCell W8 ⟨w.heap.size, 0, none⟩ (.bool true)).same D _ K8 rfl
              have r9 := r8.set (.bool true)
              have B9 := B8.out.trans (below_set (Below.refl w.heap.size W8) (b := w.heap.size) (o := 0) (x := .bool true) (by omega))
              refine ⟨by simp, .inl ⟨_, _, rfl, run_takeDeferred K9, ?_⟩⟩
              generalize W8.setCell ⟨w.heap.size, 0, none⟩ (.bool true) = W9 at *
              have E0 := (grown_cell (grownBy_putObj' W9 D (Obj.deferred none)) r9.lt (show w.heap.size ≠ D by omega)).trans r9.cell
              exact ⟨.bool true, by simp [results, Try.results4, E0, go_sem], rfl, B9.trans (belowK_b (w := w6) (by omega) W9 D _ _ (by omega) K9 rfl rfl)⟩
end
end Go.Proofs.Ytognfmkabjngnaa
