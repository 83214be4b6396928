/- Copies of a stream. -/
import Derived.Test.YtekmbeealkggmaaDrawN
namespace Go.Proofs.Ytekmbeealkggmaa
open Go.RowKit
/-- two cells are stored anew -/
theorem stored2 {w : World} {B : Nat} {x0 x1 : Value} (v0 v1 : Value) (r0 : w.cell? ⟨B, 0, none⟩ = some x0) (r1 : w.cell? ⟨B, 1, none⟩ = some x1) (f0 : w.frozen? ⟨B, 0, none⟩ = false) (f1 : w.frozen? ⟨B, 1, none⟩ = false) :
    ((w.setCell ⟨B, 0, none⟩ v0).setCell ⟨B, 1, none⟩ v1).cell? ⟨B, 0, none⟩ = some v0 ∧ ((w.setCell ⟨B, 0, none⟩ v0).setCell ⟨B, 1, none⟩ v1).cell? ⟨B, 1, none⟩ = some v1 ∧
    ((w.setCell ⟨B, 0, none⟩ v0).setCell ⟨B, 1, none⟩ v1).frozen? ⟨B, 0, none⟩ = false ∧ ((w.setCell ⟨B, 0, none⟩ v0).setCell ⟨B, 1, none⟩ v1).frozen? ⟨B, 1, none⟩ = false ∧ Below B w ((w.setCell ⟨B, 0, none⟩ v0).setCell ⟨B, 1, none⟩ v1) := by
  refine ⟨?_, ?_, ?_, ?_, below_set (below_set (Below.refl _ _) (Nat.le_refl _)) (Nat.le_refl _)⟩
  · rw [World.cell?_setCell_other _ _ _ _ (by simp)]; exact World.cell?_setCell_same _ _ _ r0
  · refine World.cell?_setCell_same _ _ _ (u := x1) ?_
    rw [World.cell?_setCell_other _ _ _ _ (by simp)]; exact r1
  · rw [World.frozen?_setCell, World.frozen?_setCell]; exact f0
  · rw [World.frozen?_setCell, World.frozen?_setCell]; exact f1
set_option maxHeartbeats 1000000 in
theorem walk_clones (v : Value) (zs : List Int) (used more : Int) (hu : 0 ≤ used ∧ used ≤ 255) (hmo : 0 ≤ more ∧ more ≤ 255) (hz : ∀ z ∈ zs, 0 ≤ z ∧ z < 18446744073709551616) (w : World) (hm : zs.length * 8 ≤ 140737488351232) (hv : IntsAt .u64 w.heap.size w v zs) :
    Calls Try.prog 5 #[v, .int .u8 used, .int .u8 more] w fun e w' => e = .returned (.bool true) ∧ Below w.heap.size w w' := by
  obtain ⟨a, len, cap, rfl⟩ : ∃ a len cap, v = .slice a len cap := by
    rcases hv.form with ⟨e, _⟩ | ⟨b, off, cap, e, _⟩ <;> exact ⟨_, _, _, e⟩
  obtain rfl := hv.len
  by_cases h1 : 300 < zs.length
  · have e1 : decide ((300 : Int) < zs.length) = true := by simp; omega
    go_enter Try.func5, Try.ntmps5
    go_wp2_with fail
    refine (new_any _ zs hm _ hv).mono ?_
    rintro e w1 ⟨b, rfl, hb, s1, b1⟩
    go_wp2_with fail
    refine (alive_any _).mono ?_
    rintro e w5 ⟨rfl, b5⟩
    go_wp2_with fail
    go_ret
    exact ⟨rfl, b1.trans (b5.mono b1.size)⟩
  · have e1 : decide ((300 : Int) < zs.length) = false := by simp; omega
    go_enter Try.func5, Try.ntmps5
    go_wp2_with fail
    refine (new_any _ zs hm _ hv).mono ?_
    rintro e w1 ⟨b, rfl, hb, s1, b1⟩
    have V1 := Lib.hid (hv.later b1)
    have S1 := Lib.hid s1
    go_wp2_with fail
    have r01 := cells_two w1 (.slice a zs.length cap) (.int .i64 ((0 : Nat) : Int)) 28
    have f0 := World.frozen?_alloc_new w1 #[.slice a zs.length cap, .int .i64 ((0 : Nat) : Int)] 28 0
    have f1 := World.frozen?_alloc_new w1 #[.slice a zs.length cap, .int .i64 ((0 : Nat) : Int)] 28 1
    have bA := (Below.refl w1.heap.size w1).alloc (Nat.le_refl _) (.cells #[.slice a zs.length cap, .int .i64 ((0 : Nat) : Int)] 28)
    have sA := S1.out.later bA
    have bW := b1.trans (bA.mono b1.size)
    have hb2 := s1.1
    have hsz := b1.size
    have RA := Lib.hid (And.intro r01 (And.intro f0 (And.intro f1 (And.intro sA bW))))
    have HV := Lib.hid hv
    have HZ := Lib.hid hz
    clear r01 f0 f1 bA sA bW s1 b1 hv hz
    generalize hB2 : w1.heap.size = B2 at *
    have hBb : B2 ≠ b := by omega
    go_loopw [34] (fun i wr => ∃ j k : Nat, (j : Int) ≤ used ∧ i = .int .i64 j ∧ (wr.cell? ⟨B2, 0, none⟩ = some (.slice a zs.length cap) ∧ wr.cell? ⟨B2, 1, none⟩ = some (.int .i64 k)) ∧ wr.frozen? ⟨B2, 0, none⟩ = false ∧ wr.frozen? ⟨B2, 1, none⟩ = false ∧ StreamAt b wr zs k ∧ Below w.heap.size w wr) (fun i _ => used.toNat - (intOf i).toNat)
    case atStart => exact ⟨0, 0, by omega, rfl, RA.out⟩
    case round =>
      obtain ⟨j, k, hj, rfl, ⟨r0, r1⟩, f0, f1, hst, hBw⟩ := hrel
      by_cases hlt : (j : Int) < used
      · have hE : decide ((j : Int) < used) = true := by simpa using hlt
        have HS := Lib.hid hst
        go_wp2_with fail
        refine (next_any b zs HZ.out k (by omega) 9 (by omega) _ HS.out).mono ?_
        rintro e w5 ⟨rfl, s5, g5⟩
        have hB2s := World.block_lt_of_cell? _ _ r0
        replace r0 := (grown_cell (o := 0) g5 hB2s hBb).trans r0
        replace r1 := (grown_cell (o := 1) g5 hB2s hBb).trans r1
        replace f0 := (grown_frozen (o := 0) g5 hB2s hBb).trans f0
        replace f1 := (grown_frozen (o := 1) g5 hB2s hBb).trans f1
        have hB5 := hBw.trans ((Grown.below g5 HS.out.1).mono hb)
        have hN := refNext_any (.slice a zs.length cap) zs HZ.out k (by omega) 9 (by omega) w5 ((HV.out.below hB5).grow hB5.size)
        have S5 := Lib.hid s5
        have HB5 := Lib.hid hB5
        clear s5 g5 hB5 hBw hst hB2s
        generalize nextR zs k 9 = R at *
        obtain ⟨x, okb, k2⟩ := R
        simp only at hN S5
        have HN := Lib.hid hN
        clear hN
        go_wp2_with fail
        refine HN.out.mono ?_
        rintro e w6 ⟨rfl, b6⟩
        unfold RefSt
        have hB5s := World.block_lt_of_cell? _ _ r0
        replace f0 := (b6.frozen (p := ⟨B2, 0, none⟩) hB5s).trans f0
        replace f1 := (b6.frozen (p := ⟨B2, 1, none⟩) hB5s).trans f1
        replace r0 := cell_step b6 r0
        replace r1 := cell_step b6 r1
        have hB6s := World.block_lt_of_cell? _ _ r0
        go_wp2_with fail
        have ST := stored2 (.slice a zs.length cap) (.int .i64 k2) r0 r1 f0 f1
        obtain ⟨x0, x1, y0, y1, xb⟩ := ST
        have hBX := (HB5.out.trans (b6.mono HB5.out.size)).trans (xb.mono hsz)
        have sX := (S5.out.later b6).below xb hb2
        refine ⟨⟨j + 1, k2, by omega, by rw [Int.natCast_add]; rfl, ⟨x0, x1⟩, y0, y1, sX, hBX⟩, ?_⟩
        show used.toNat - ((j : Int) + 1).toNat < used.toNat - ((j : Int)).toNat
        omega
      · have hje : (j : Int) = used := by omega
        have hE : decide ((j : Int) < used) = false := by simpa using hlt
        have HS := Lib.hid hst
        have HBw := Lib.hid hBw
        clear hst hBw
        go_wp2_with fail
        refine (clone_any b zs k _ HS.out).mono ?_
        rintro e w5 ⟨c, rfl, hc, s5, b5⟩
        have hB2s := World.block_lt_of_cell? _ _ r0
        replace f0 := (b5.frozen (p := ⟨B2, 0, none⟩) hB2s).trans f0
        replace f1 := (b5.frozen (p := ⟨B2, 1, none⟩) hB2s).trans f1
        replace r0 := cell_step b5 r0
        replace r1 := cell_step b5 r1
        have hB5 := HBw.out.trans (b5.mono HBw.out.size)
        have HB5 := Lib.hid hB5
        have S5 := Lib.hid s5
        have T5 := Lib.hid (HS.out.later b5)
        have hcw := HBw.out.size
        have hcb := Nat.lt_of_lt_of_le HS.out.1 hc
        clear hB5 s5 b5
        go_wp2_with fail
        refine (same_any c (.slice a zs.length cap) zs k (by omega) _ S5.out ((HV.out.below HB5.out).grow HB5.out.size)).mono ?_
        rintro e w6 ⟨rfl, b6⟩
        have hB5s := World.block_lt_of_cell? _ _ r0
        replace f0 := (b6.frozen (p := ⟨B2, 0, none⟩) hB5s).trans f0
        replace f1 := (b6.frozen (p := ⟨B2, 1, none⟩) hB5s).trans f1
        replace r0 := cell_step b6 r0
        replace r1 := cell_step b6 r1
        have S6 := Lib.hid (S5.out.later b6)
        have T6 := Lib.hid (T5.out.later b6)
        have HB6 := Lib.hid (HB5.out.trans (b6.mono HB5.out.size))
        go_wp2_with fail
        have q01 := cells_two w6 (.slice a zs.length cap) (.int .i64 k) 28
        have p0 := World.frozen?_alloc_new w6 #[.slice a zs.length cap, .int .i64 k] 28 0
        have p1 := World.frozen?_alloc_new w6 #[.slice a zs.length cap, .int .i64 k] 28 1
        have bA := (Below.refl w6.heap.size w6).alloc (Nat.le_refl _) (.cells #[.slice a zs.length cap, .int .i64 k] 28)
        have sA := S6.out.later bA
        have tA := T6.out.later bA
        have bW := HB6.out.trans (bA.mono HB6.out.size)
        have z0 := cell_step bA r0
        have z1 := cell_step bA r1
        have hB2c : B2 < c := Nat.lt_of_lt_of_le hB2s hc
        have hc6 := S6.out.1
        have Z := Lib.hid (And.intro z0 (And.intro z1 tA))
        have RB := Lib.hid (And.intro q01 (And.intro p0 (And.intro p1 (And.intro sA (And.intro bW (Below.refl c (w6.alloc (.cells #[.slice a zs.length cap, .int .i64 k] 28))))))))
        have hwc : w.heap.size ≤ c := Nat.le_trans hcw hc
        have hw6 := HB6.out.size
        clear q01 p0 p1 bA sA tA bW z0 z1 r0 r1 f0 f1 b6 hB5s hB2s
        generalize w6.alloc (.cells #[.slice a zs.length cap, .int .i64 k] 28) = W0 at *
        generalize hB3 : w6.heap.size = B3 at *
        have hBc : B3 ≠ c := by omega
        have hc3 : c < B3 := hc6
        go_loopw [11, 12, 13, 14, 15, 58] (fun _ _ _ _ _ i wr => ∃ j k : Nat, (j : Int) ≤ more ∧ i = .int .i64 j ∧ (wr.cell? ⟨B3, 0, none⟩ = some (.slice a zs.length cap) ∧ wr.cell? ⟨B3, 1, none⟩ = some (.int .i64 k)) ∧ wr.frozen? ⟨B3, 0, none⟩ = false ∧ wr.frozen? ⟨B3, 1, none⟩ = false ∧ StreamAt c wr zs k ∧ Below w.heap.size w wr ∧ Below c W0 wr) (fun _ _ _ _ _ i _ => more.toNat - (intOf i).toNat)
        case atStart => exact ⟨0, k, by omega, rfl, RB.out⟩
        case round =>
          clear hlt hE hj
          obtain ⟨j, k, hj, rfl, ⟨r0, r1⟩, f0, f1, hst, hBw, hBc0⟩ := hrel
          by_cases hlt : (j : Int) < more
          · have hE : decide ((j : Int) < more) = true := by simpa using hlt
            have HS := Lib.hid hst
            have HC0 := Lib.hid hBc0
            go_wp2_with fail
            refine (next_any c zs HZ.out k (by omega) 1000 (by omega) _ HS.out).mono ?_
            rintro e w5 ⟨rfl, s5, g5⟩
            have hB2s := World.block_lt_of_cell? _ _ r0
            replace r0 := (grown_cell (o := 0) g5 hB2s hBc).trans r0
            replace r1 := (grown_cell (o := 1) g5 hB2s hBc).trans r1
            replace f0 := (grown_frozen (o := 0) g5 hB2s hBc).trans f0
            replace f1 := (grown_frozen (o := 1) g5 hB2s hBc).trans f1
            have gc := Grown.below g5 HS.out.1
            have hB5 := hBw.trans (gc.mono hwc)
            have hC5 := HC0.out.trans gc
            have hN := refNext_any (.slice a zs.length cap) zs HZ.out k (by omega) 1000 (by omega) w5 ((HV.out.below hB5).grow hB5.size)
            have S5 := Lib.hid s5
            have HB5 := Lib.hid hB5
            have HC5 := Lib.hid hC5
            clear s5 g5 gc hB5 hBw hst hB2s hC5 hBc0
            generalize nextR zs k 1000 = R at *
            obtain ⟨x, okb, k2⟩ := R
            simp only at hN S5
            have HN := Lib.hid hN
            clear hN
            go_wp2_with fail
            refine HN.out.mono ?_
            rintro e w7 ⟨rfl, b6⟩
            unfold RefSt
            have hB5s := World.block_lt_of_cell? _ _ r0
            replace f0 := (b6.frozen (p := ⟨B3, 0, none⟩) hB5s).trans f0
            replace f1 := (b6.frozen (p := ⟨B3, 1, none⟩) hB5s).trans f1
            replace r0 := cell_step b6 r0
            replace r1 := cell_step b6 r1
            have hB6s := World.block_lt_of_cell? _ _ r0
            go_wp2_with fail
            have ST := stored (.slice a zs.length cap) (.int .i64 k2) (.cells #[.slice a zs.length cap, .int .i64 k2] 28) r0 r1 f0 f1
            obtain ⟨x0, x1, y0, y1, xb⟩ := ST
            have hBX := (HB5.out.trans (b6.mono HB5.out.size)).trans (xb.mono hw6)
            have hCX := (HC5.out.trans (b6.mono (Nat.le_of_lt S5.out.1))).trans (xb.mono (Nat.le_of_lt hc3))
            have sX := (S5.out.later b6).below xb hc3
            refine ⟨⟨j + 1, k2, by omega, by rw [Int.natCast_add]; rfl, ⟨x0, x1⟩, y0, y1, sX, hBX, hCX⟩, ?_⟩
            show more.toNat - ((j : Int) + 1).toNat < more.toNat - ((j : Int)).toNat
            omega
          · have hje : (j : Int) = more := by omega
            have hE : decide ((j : Int) < more) = false := by simpa using hlt
            have HS := Lib.hid hst
            have HBw := Lib.hid hBw
            have HC0 := Lib.hid hBc0
            clear hst hBw hBc0
            go_wp2_with fail
            refine (alive_any _).mono ?_
            rintro e w7 ⟨rfl, b7⟩
            obtain ⟨z0, z1, t0⟩ := Z.out
            have z0 := cell_step b7 ((HC0.out.cell (p := ⟨B2, 0, none⟩) hB2c).trans z0)
            have z1 := cell_step b7 ((HC0.out.cell (p := ⟨B2, 1, none⟩) hB2c).trans z1)
            have T7 := Lib.hid ((t0.below HC0.out hcb).later b7)
            have HB7 := Lib.hid (HBw.out.trans (b7.mono HBw.out.size))
            have S7 := Lib.hid (HS.out.later b7)
            replace r0 := cell_step b7 r0
            replace r1 := cell_step b7 r1
            clear t0
            go_wp2_with fail
            refine (same_any b (.slice a zs.length cap) zs _ (by omega) _ T7.out ((HV.out.below HB7.out).grow HB7.out.size)).mono ?_
            rintro e w8 ⟨rfl, b8⟩
            have HB8 := Lib.hid (HB7.out.trans (b8.mono HB7.out.size))
            have S8 := Lib.hid (S7.out.later b8)
            replace r0 := cell_step b8 r0
            replace r1 := cell_step b8 r1
            go_wp2_with fail
            refine (same_any c (.slice a zs.length cap) zs _ (by omega) _ S8.out ((HV.out.below HB8.out).grow HB8.out.size)).mono ?_
            rintro e w9 ⟨rfl, b9⟩
            go_wp2_with fail
            go_ret
            exact ⟨rfl, HB8.out.trans (b9.mono HB8.out.size)⟩
end Go.Proofs.Ytekmbeealkggmaa
