/- Many after Many, and the reference beside it. -/
import Derived.Test.YtekmbeealkggmaaDrawQ
namespace Go.Proofs.Ytekmbeealkggmaa
open Go.RowKit
set_option maxHeartbeats 1000000 in
theorem walk_many (v u : Value) (zs : List Int) (bss : List (List Int)) (hz : ∀ z ∈ zs, 0 ≤ z ∧ z < 18446744073709551616) (hbs : ∀ bs ∈ bss, ∀ n ∈ bs, -9223372036854775808 ≤ n ∧ n ≤ 9223372036854775807) (w : World) (hm : zs.length * 8 ≤ 140737488351232) (hm2 : bss.length ≤ maxLen) (hm3 : ∀ bs ∈ bss, bs.length ≤ maxLen) (hv : IntsAt .u64 w.heap.size w v zs) (hu : RowsAt .i64 w.heap.size w u bss) :
    Calls Try.prog 4 #[v, u] w fun e w' => e = .returned (.bool true) ∧ Below w.heap.size w w' := by
  unfold maxLen at hm2 hm3
  obtain ⟨a, len, cap, rfl⟩ : ∃ a len cap, v = .slice a len cap := by
    rcases hv.form with ⟨e, _⟩ | ⟨b, off, cap, e, _⟩ <;> exact ⟨_, _, _, e⟩
  obtain rfl := hv.len
  obtain ⟨a', cap', rfl⟩ := hu.value
  by_cases h1 : 300 < zs.length ∨ 50 < bss.length
  · rcases Nat.lt_or_ge 300 zs.length with h1 | h1'
    · have e1 : decide ((300 : Int) < zs.length) = true := by simp; omega
      go_enter Try.func4, Try.ntmps4
      go_wp2_with fail
      refine (new_any _ zs hm _ hv).mono ?_
      rintro e w1 ⟨b, rfl, hb, s1, b1⟩
      go_wp2_with fail
      refine (alive_any _).mono ?_
      rintro e w5 ⟨rfl, b5⟩
      go_wp2_with fail
      go_ret
      exact ⟨rfl, b1.trans (b5.mono b1.size)⟩
    · have e1 : decide ((300 : Int) < zs.length) = false := by simp; omega
      have e2 : decide ((50 : Int) < bss.length) = true := by simp; omega
      go_enter Try.func4, Try.ntmps4
      go_wp2_with fail
      refine (new_any _ zs hm _ hv).mono ?_
      rintro e w1 ⟨b, rfl, hb, s1, b1⟩
      go_wp2_with fail
      refine (alive_any _).mono ?_
      rintro e w5 ⟨rfl, b5⟩
      go_wp2_with fail
      go_ret
      exact ⟨rfl, b1.trans (b5.mono b1.size)⟩
  · have e1 : decide ((300 : Int) < zs.length) = false := by simp; omega
    have e2 : decide ((50 : Int) < bss.length) = false := by simp; omega
    go_enter Try.func4, Try.ntmps4
    go_wp2_with fail
    refine (new_any _ zs hm _ hv).mono ?_
    rintro e w1 ⟨b, rfl, hb, s1, b1⟩
    have V1 := Lib.hid (hv.later b1)
    have S1 := Lib.hid s1
    go_wp2_with fail
    have r01 := cells_two w1 (.slice a zs.length cap) (.int .i64 ((0 : Nat) : Int)) 28
    have f0 := World.frozen?_alloc_new w1 #[.slice a zs.length cap, .int .i64 ((0 : Nat) : Int)] 28 0
    have f1 := World.frozen?_alloc_new w1 #[.slice a zs.length cap, .int .i64 ((0 : Nat) : Int)] 28 1
    have bA := (Below.refl w1.heap.size w1).alloc (Nat.le_refl _) (.cells #[.slice a zs.length cap, .int .i64 ((0 : Nat) : Int)] 28)
    have sA := S1.out.later bA
    have bW := b1.trans (bA.mono b1.size)
    have hb2 := s1.1
    have hsz := b1.size
    have RA := Lib.hid (And.intro r01 (And.intro f0 (And.intro f1 (And.intro sA bW))))
    have HU := Lib.hid hu
    have HV := Lib.hid hv
    have HZ := Lib.hid hz
    have HB := Lib.hid hbs
    have HM3 := Lib.hid hm3
    clear r01 f0 f1 bA sA bW s1 b1 hu hv hz hbs hm3
    generalize hB2 : w1.heap.size = B2 at *
    have hBb : B2 ≠ b := by omega
    go_loopw [8, 9, 10, 11, 12, 13, 37] (fun _ _ _ _ _ _ i wr => ∃ j k : Nat, j ≤ bss.length ∧ i = .int .i64 j ∧ (wr.cell? ⟨B2, 0, none⟩ = some (.slice a zs.length cap) ∧ wr.cell? ⟨B2, 1, none⟩ = some (.int .i64 k)) ∧ wr.frozen? ⟨B2, 0, none⟩ = false ∧ wr.frozen? ⟨B2, 1, none⟩ = false ∧ StreamAt b wr zs k ∧ Below w.heap.size w wr) (fun _ _ _ _ _ _ i _ => bss.length - (intOf i).toNat)
    case atStart => exact ⟨0, 0, Nat.zero_le _, rfl, RA.out⟩
    case round =>
      obtain ⟨j, k, hj, rfl, ⟨r0, r1⟩, f0, f1, hst, hBw⟩ := hrel
      by_cases hlt : j < bss.length
      · rcases HU.out.form with ⟨_, e0⟩ | ⟨g, off, c', e0, hcap, hg, hcs⟩
        · rw [e0] at hlt; simp at hlt
        cases e0
        obtain ⟨ra, rc, hc0, hI⟩ := hcs j hlt
        have c := (hBw.cell (p := ⟨g, off + j, none⟩) hg).trans hc0
        have hmem : bss[j]?.getD [] ∈ bss := by rw [List.getElem?_eq_getElem hlt]; exact List.getElem_mem hlt
        have hn := Lib.hid (HB.out (bss[j]?.getD []) hmem)
        have hl3 := HM3.out (bss[j]?.getD []) hmem
        have HI := Lib.hid (hI.below hBw)
        clear hcs hc0 hI hmem
        generalize bss[j]?.getD [] = bs at *
        have HS := Lib.hid hst
        by_cases h3 : 300 < bs.length
        · have e3 : decide ((300 : Int) < bs.length) = true := by simp; omega
          go_wp2_with fail
          refine (alive_any _).mono ?_
          rintro e w5 ⟨rfl, b5⟩
          go_wp2_with fail
          go_ret
          exact ⟨rfl, hBw.trans (b5.mono hBw.size)⟩
        · have e3 : decide ((300 : Int) < bs.length) = false := by simp; omega
          go_wp2_with fail
          refine (many_w b zs HZ.out k (by omega) _ bs hn.out (by omega) _ HS.out w.heap.size hb HI.out).mono ?_
          rintro e w5 ⟨x, rfl, ox, s5, g5⟩
          have hB2s := World.block_lt_of_cell? _ _ r0
          replace r0 := (grown_cell (o := 0) g5 hB2s hBb).trans r0
          replace r1 := (grown_cell (o := 1) g5 hB2s hBb).trans r1
          replace f0 := (grown_frozen (o := 0) g5 hB2s hBb).trans f0
          replace f1 := (grown_frozen (o := 1) g5 hB2s hBb).trans f1
          have hk := HS.out.2.1
          have hB5 := hBw.trans ((Grown.below g5 HS.out.1).mono hb)
          have hN := refMany_w (.slice a zs.length cap) (.slice ra bs.length rc) zs HZ.out k hk (by omega) bs hn.out (by omega) w5 ((HV.out.below hB5).grow hB5.size) ((HI.out.below ((Grown.below g5 HS.out.1).mono hb)).grow hB5.size)
          have S5 := Lib.hid s5
          have HB5 := Lib.hid hB5
          have OX := Lib.hid ox
          have hol := manyO_len zs k bs
          have hbw := Lib.hid hBw.size
          clear s5 g5 hB5 hBw hst ox
          unfold RefManyIs at hN
          generalize manyO zs k bs = os at *
          generalize manyK zs k bs = k2 at *
          generalize manyB zs k bs = okb at *
          have HN := Lib.hid hN
          clear hN
          go_wp2_with fail
          refine HN.out.mono ?_
          rintro e w6 ⟨o, rfl, oo, b6⟩
          unfold RefSt
          have hB5s := World.block_lt_of_cell? _ _ r0
          replace f0 := (b6.frozen (p := ⟨B2, 0, none⟩) hB5s).trans f0
          replace f1 := (b6.frozen (p := ⟨B2, 1, none⟩) hB5s).trans f1
          replace r0 := cell_step b6 r0
          replace r1 := cell_step b6 r1
          have hB6s := World.block_lt_of_cell? _ _ r0
          have OX6 := row_kept OX.out (grown_below b6 (some B2)) hB2s
          have OX7 := Lib.hid ((row_kept OX6 (grown_trans (grown_set w6 B2 0 (.slice a zs.length cap)) (grown_set _ B2 1 (.int .i64 k2))) hB2s).alloc (.cells #[.slice a zs.length cap, .int .i64 k2] 28))
          have OO7 := Lib.hid ((row_kept oo (grown_trans (grown_set w6 B2 0 (.slice a zs.length cap)) (grown_set _ B2 1 (.int .i64 k2))) hB5s).alloc (.cells #[.slice a zs.length cap, .int .i64 k2] 28))
          have ST := stored (.slice a zs.length cap) (.int .i64 k2) (.cells #[.slice a zs.length cap, .int .i64 k2] 28) r0 r1 f0 f1
          obtain ⟨x0, x1, y0, y1, xb⟩ := ST
          have hBX := (HB5.out.trans (b6.mono HB5.out.size)).trans (xb.mono hsz)
          have sX := (S5.out.later b6).below xb hb2
          have HX := Lib.hid (And.intro (And.intro x0 x1) (And.intro y0 (And.intro y1 (And.intro sX hBX))))
          have hM := equal_same x o os (by omega) _ _ _ (IntsAt.of_owns rfl OX7.out) (IntsAt.of_owns rfl OO7.out)
          have HM := Lib.hid hM
          clear OX6 x0 x1 y0 y1 xb hBX sX hM oo
          go_wp2_with fail
          refine HM.out.mono ?_
          rintro e w7 ⟨rfl, b7⟩
          obtain ⟨⟨x0, x1⟩, y0, y1, sX, hBX⟩ := HX.out
          have hX := World.block_lt_of_cell? _ _ x0
          have z0 := cell_step b7 x0
          have z1 := cell_step b7 x1
          have HF0 := Lib.hid ((b7.frozen (p := ⟨B2, 0, none⟩) hX).trans y0)
          have HF1 := Lib.hid ((b7.frozen (p := ⟨B2, 1, none⟩) hX).trans y1)
          have S7 := Lib.hid (sX.later b7)
          have HB7 := Lib.hid (hBX.trans (b7.mono hBX.size))
          clear x0 x1 y0 y1 sX hBX r0 r1 f0 f1
          go_wp2_with fail
          refine (same_any b (.slice a zs.length cap) zs k2 (by omega) _ S7.out ((HV.out.below HB7.out).grow HB7.out.size)).mono ?_
          rintro e w8 ⟨rfl, b8⟩
          go_wp2_with fail
          have hX := World.block_lt_of_cell? _ _ z0
          refine ⟨⟨j + 1, k2, by omega, by rw [Int.natCast_add]; rfl, ⟨cell_step b8 z0, cell_step b8 z1⟩, (b8.frozen (p := ⟨B2, 0, none⟩) hX).trans HF0.out, (b8.frozen (p := ⟨B2, 1, none⟩) hX).trans HF1.out, S7.out.later b8, HB7.out.trans (b8.mono HB7.out.size)⟩, ?_⟩
          show bss.length - ((j : Int) + 1).toNat < bss.length - ((j : Int)).toNat
          omega
      · have hje : j = bss.length := by omega
        go_wp2_with fail
        refine (alive_any _).mono ?_
        rintro e w5 ⟨rfl, b5⟩
        go_wp2_with fail
        go_ret
        exact ⟨rfl, hBw.trans (b5.mono hBw.size)⟩
end Go.Proofs.Ytekmbeealkggmaa
