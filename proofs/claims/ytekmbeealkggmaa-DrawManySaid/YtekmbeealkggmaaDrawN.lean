/- Next after Next, and the reference beside it. -/
import Derived.Test.YtekmbeealkggmaaDrawL
namespace Go.Proofs.Ytekmbeealkggmaa
open Go.RowKit
theorem grown_frozen {w w' : World} {b g o : Nat} (h : w.grownBy w' (some b)) (hg : g < w.heap.size) (hne : g ≠ b) : w'.frozen? ⟨g, o, none⟩ = w.frozen? ⟨g, o, none⟩ := by
  simp only [World.frozen?, h.block g hg (fun e => hne (by cases e; rfl))]
/-- two cells are stored anew, and a block is made -/
theorem stored {w : World} {B : Nat} {x0 x1 : Value} (v0 v1 : Value) (o : Obj) (r0 : w.cell? ⟨B, 0, none⟩ = some x0) (r1 : w.cell? ⟨B, 1, none⟩ = some x1) (f0 : w.frozen? ⟨B, 0, none⟩ = false) (f1 : w.frozen? ⟨B, 1, none⟩ = false) :
    (((w.setCell ⟨B, 0, none⟩ v0).setCell ⟨B, 1, none⟩ v1).alloc o).cell? ⟨B, 0, none⟩ = some v0 ∧ (((w.setCell ⟨B, 0, none⟩ v0).setCell ⟨B, 1, none⟩ v1).alloc o).cell? ⟨B, 1, none⟩ = some v1 ∧
    (((w.setCell ⟨B, 0, none⟩ v0).setCell ⟨B, 1, none⟩ v1).alloc o).frozen? ⟨B, 0, none⟩ = false ∧ (((w.setCell ⟨B, 0, none⟩ v0).setCell ⟨B, 1, none⟩ v1).alloc o).frozen? ⟨B, 1, none⟩ = false ∧ Below B w (((w.setCell ⟨B, 0, none⟩ v0).setCell ⟨B, 1, none⟩ v1).alloc o) := by
  have hB := World.block_lt_of_cell? _ _ r0
  have hB' : B < ((w.setCell ⟨B, 0, none⟩ v0).setCell ⟨B, 1, none⟩ v1).heap.size := by simpa [World.setCell] using hB
  have al := (Below.refl ((w.setCell ⟨B, 0, none⟩ v0).setCell ⟨B, 1, none⟩ v1).heap.size ((w.setCell ⟨B, 0, none⟩ v0).setCell ⟨B, 1, none⟩ v1)).alloc (Nat.le_refl _) o
  refine ⟨(al.cell (p := ⟨B, 0, none⟩) hB').trans ?_, (al.cell (p := ⟨B, 1, none⟩) hB').trans ?_, (al.frozen (p := ⟨B, 0, none⟩) hB').trans ?_, (al.frozen (p := ⟨B, 1, none⟩) hB').trans ?_, ((below_set (below_set (Below.refl _ _) (Nat.le_refl _)) (Nat.le_refl _)).alloc (Nat.le_of_lt hB') o)⟩
  · rw [World.cell?_setCell_other _ _ _ _ (by simp)]; exact World.cell?_setCell_same _ _ _ r0
  · refine World.cell?_setCell_same _ _ _ (u := x1) ?_
    rw [World.cell?_setCell_other _ _ _ _ (by simp)]; exact r1
  · rw [World.frozen?_setCell, World.frozen?_setCell]; exact f0
  · rw [World.frozen?_setCell, World.frozen?_setCell]; exact f1
set_option maxHeartbeats 1000000 in
theorem walk_nexts (v u : Value) (zs bs : List Int) (hz : ∀ z ∈ zs, 0 ≤ z ∧ z < 18446744073709551616) (hbs : ∀ n ∈ bs, -9223372036854775808 ≤ n ∧ n ≤ 9223372036854775807) (w : World) (hm : zs.length * 8 ≤ 140737488351232) (hm2 : bs.length ≤ maxLen) (hv : IntsAt .u64 w.heap.size w v zs) (hu : IntsAt .i64 w.heap.size w u bs) :
    Calls Try.prog 3 #[v, u] w fun e w' => e = .returned (.bool true) ∧ Below w.heap.size w w' := by
  unfold maxLen at hm2
  obtain ⟨a, len, cap, rfl⟩ : ∃ a len cap, v = .slice a len cap := by
    rcases hv.form with ⟨e, _⟩ | ⟨b, off, cap, e, _⟩ <;> exact ⟨_, _, _, e⟩
  obtain rfl := hv.len
  obtain ⟨a', len', cap', rfl⟩ : ∃ a len cap, u = .slice a len cap := by
    rcases hu.form with ⟨e, _⟩ | ⟨b, off, cap, e, _⟩ <;> exact ⟨_, _, _, e⟩
  obtain rfl := hu.len
  by_cases h1 : 300 < zs.length ∨ 300 < bs.length
  · rcases Nat.lt_or_ge 300 zs.length with h1 | h1'
    · have e1 : decide ((300 : Int) < zs.length) = true := by simp; omega
      go_enter Try.func3, Try.ntmps3
      go_wp2_with fail
      refine (new_any _ zs hm _ hv).mono ?_
      rintro e w1 ⟨b, rfl, hb, s1, b1⟩
      go_wp2_with fail
      refine (alive_any _).mono ?_
      rintro e w5 ⟨rfl, b5⟩
      go_wp2_with fail
      go_ret
      exact ⟨rfl, b1.trans (b5.mono b1.size)⟩
    · have e1 : decide ((300 : Int) < zs.length) = false := by simp; omega
      have e2 : decide ((300 : Int) < bs.length) = true := by simp; omega
      go_enter Try.func3, Try.ntmps3
      go_wp2_with fail
      refine (new_any _ zs hm _ hv).mono ?_
      rintro e w1 ⟨b, rfl, hb, s1, b1⟩
      go_wp2_with fail
      refine (alive_any _).mono ?_
      rintro e w5 ⟨rfl, b5⟩
      go_wp2_with fail
      go_ret
      exact ⟨rfl, b1.trans (b5.mono b1.size)⟩
  · have e1 : decide ((300 : Int) < zs.length) = false := by simp; omega
    have e2 : decide ((300 : Int) < bs.length) = false := by simp; omega
    go_enter Try.func3, Try.ntmps3
    go_wp2_with fail
    refine (new_any _ zs hm _ hv).mono ?_
    rintro e w1 ⟨b, rfl, hb, s1, b1⟩
    have V1 := Lib.hid (hv.later b1)
    have U1 := Lib.hid (hu.later b1)
    have S1 := Lib.hid s1
    go_wp2_with fail
    have r01 := cells_two w1 (.slice a zs.length cap) (.int .i64 ((0 : Nat) : Int)) 28
    have f0 := World.frozen?_alloc_new w1 #[.slice a zs.length cap, .int .i64 ((0 : Nat) : Int)] 28 0
    have f1 := World.frozen?_alloc_new w1 #[.slice a zs.length cap, .int .i64 ((0 : Nat) : Int)] 28 1
    have bA := (Below.refl w1.heap.size w1).alloc (Nat.le_refl _) (.cells #[.slice a zs.length cap, .int .i64 ((0 : Nat) : Int)] 28)
    have sA := S1.out.later bA
    have bW := b1.trans (bA.mono b1.size)
    have hb2 := s1.1
    have hsz := b1.size
    have RA := Lib.hid (And.intro r01 (And.intro f0 (And.intro f1 (And.intro sA bW))))
    have HU := Lib.hid hu
    have HV := Lib.hid hv
    have HZ := Lib.hid hz
    have HB := Lib.hid hbs
    clear r01 f0 f1 bA sA bW s1 b1 hu hv hz hbs
    generalize hB2 : w1.heap.size = B2 at *
    have hBb : B2 ≠ b := by omega
    go_loopw [8, 9, 10, 11, 12, 13, 37] (fun _ _ _ _ _ _ i wr => ∃ j k : Nat, j ≤ bs.length ∧ i = .int .i64 j ∧ (wr.cell? ⟨B2, 0, none⟩ = some (.slice a zs.length cap) ∧ wr.cell? ⟨B2, 1, none⟩ = some (.int .i64 k)) ∧ wr.frozen? ⟨B2, 0, none⟩ = false ∧ wr.frozen? ⟨B2, 1, none⟩ = false ∧ StreamAt b wr zs k ∧ Below w.heap.size w wr) (fun _ _ _ _ _ _ i _ => bs.length - (intOf i).toNat)
    case atStart => exact ⟨0, 0, Nat.zero_le _, rfl, RA.out⟩
    case round =>
      obtain ⟨j, k, hj, rfl, ⟨r0, r1⟩, f0, f1, hst, hBw⟩ := hrel
      by_cases hlt : j < bs.length
      · rcases HU.out.form with ⟨_, e0⟩ | ⟨g, off, c', e0, hcap, hg, hcs⟩
        · rw [e0] at hlt; simp at hlt
        cases e0
        have c := (hBw.cell (p := ⟨g, off + j, none⟩) hg).trans (hcs j hlt)
        have hn := HB.out (bs[j]?.getD 0) (by rw [List.getElem?_eq_getElem hlt]; exact List.getElem_mem hlt)
        clear hcs
        generalize bs[j]?.getD 0 = n at *
        have HS := Lib.hid hst
        go_wp2_with fail
        refine (next_any b zs HZ.out k (by omega) n hn _ HS.out).mono ?_
        rintro e w5 ⟨rfl, s5, g5⟩
        have hB2s := World.block_lt_of_cell? _ _ r0
        replace r0 := (grown_cell (o := 0) g5 hB2s hBb).trans r0
        replace r1 := (grown_cell (o := 1) g5 hB2s hBb).trans r1
        replace f0 := (grown_frozen (o := 0) g5 hB2s hBb).trans f0
        replace f1 := (grown_frozen (o := 1) g5 hB2s hBb).trans f1
        have hB5 := hBw.trans ((Grown.below g5 HS.out.1).mono hb)
        have hN := refNext_any (.slice a zs.length cap) zs HZ.out k (by omega) n hn w5 ((HV.out.below hB5).grow hB5.size)
        have S5 := Lib.hid s5
        have HB5 := Lib.hid hB5
        clear s5 g5 hB5 hBw hst hB2s
        generalize nextR zs k n = R at *
        obtain ⟨x, okb, k2⟩ := R
        simp only at hN S5
        have HN := Lib.hid hN
        clear hN
        go_wp2_with fail
        refine HN.out.mono ?_
        rintro e w6 ⟨rfl, b6⟩
        unfold RefSt
        have hB5s := World.block_lt_of_cell? _ _ r0
        replace f0 := (b6.frozen (p := ⟨B2, 0, none⟩) hB5s).trans f0
        replace f1 := (b6.frozen (p := ⟨B2, 1, none⟩) hB5s).trans f1
        replace r0 := cell_step b6 r0
        replace r1 := cell_step b6 r1
        have hB6s := World.block_lt_of_cell? _ _ r0
        have ST := stored (.slice a zs.length cap) (.int .i64 k2) (.cells #[.slice a zs.length cap, .int .i64 k2] 28) r0 r1 f0 f1
        obtain ⟨x0, x1, y0, y1, xb⟩ := ST
        have hBX := (HB5.out.trans (b6.mono HB5.out.size)).trans (xb.mono hsz)
        have sX := (S5.out.later b6).below xb hb2
        have hM := same_any b (.slice a zs.length cap) zs k2 (by omega) _ sX ((HV.out.below hBX).grow hBX.size)
        have HM := Lib.hid hM
        have HX := Lib.hid (And.intro (And.intro x0 x1) (And.intro y0 (And.intro y1 (And.intro sX hBX))))
        clear x0 x1 y0 y1 xb hBX sX hM
        go_wp2_with fail
        refine HM.out.mono ?_
        rintro e w7 ⟨rfl, b7⟩
        go_wp2_with fail
        obtain ⟨⟨x0, x1⟩, y0, y1, sX, hBX⟩ := HX.out
        have hX := World.block_lt_of_cell? _ _ x0
        refine ⟨⟨j + 1, k2, by omega, by rw [Int.natCast_add]; rfl, ⟨cell_step b7 x0, cell_step b7 x1⟩, (b7.frozen (p := ⟨B2, 0, none⟩) hX).trans y0, (b7.frozen (p := ⟨B2, 1, none⟩) hX).trans y1, sX.later b7, hBX.trans (b7.mono hBX.size)⟩, ?_⟩
        show bs.length - ((j : Int) + 1).toNat < bs.length - ((j : Int)).toNat
        omega
      · have hje : j = bs.length := by omega
        go_wp2_with fail
        refine (alive_any _).mono ?_
        rintro e w5 ⟨rfl, b5⟩
        go_wp2_with fail
        go_ret
        exact ⟨rfl, hBw.trans (b5.mono hBw.size)⟩
end Go.Proofs.Ytekmbeealkggmaa
