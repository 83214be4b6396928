/- Layer 7: Of. -/
import Derived.Test.YtinflmjombcolaaMatG
namespace Go.Proofs.Ytinflmjombcolaa
open Go.RowKit
set_option linter.unusedVariables false
def OfMat (r c : Int) (zs : List Int) (w : World) (e : Ending) (w' : World) : Prop :=
  if rightB r c zs.length then ∃ v, e = .returned (.tuple #[.agg #[.int .i64 r, .int .i64 c, v], .bool true]) ∧ w'.ownsRow w.heap.size 2 1 v zs.length (zs.map (Value.int .i64)) ∧ Below w.heap.size w w'
  else e = .returned (.tuple #[.agg #[.int .i64 0, .int .i64 0, .slice none 0 0], .bool false]) ∧ Below w.heap.size w w'
set_option maxHeartbeats 2000000 in
theorem of_mat_any (r c : Int) (v : Value) (zs : List Int) (hm : zs.length ≤ 1048576) (w : World) (hv : IntsW .i64 w.heap.size w v zs) :
    Calls Try.prog 11 #[.int .i64 r, .int .i64 c, v] w (OfMat r c zs w) := by
  obtain ⟨a, cap, rfl⟩ := hv.value
  have AL1 := (Below.refl w.heap.size w).alloc (Nat.le_refl _) (.cells #[.int .i64 0, .int .i64 0, .slice none 0 0] 29)
  have AL2 := below_alloc (o := .cells #[.int .i64 r, .int .i64 c, .slice a zs.length cap] 29) AL1
  have hs : (w.alloc (.cells #[.int .i64 0, .int .i64 0, .slice none 0 0] 29)).heap.size = w.heap.size + 1 := by simp
  have al := (Below.refl (w.alloc (.cells #[.int .i64 0, .int .i64 0, .slice none 0 0] 29)).heap.size (w.alloc (.cells #[.int .i64 0, .int .i64 0, .slice none 0 0] 29))).alloc (Nat.le_refl _) (.cells #[.int .i64 r, .int .i64 c, .slice a zs.length cap] 29)
  have CR := Lib.hid ((Cell3.new w (.int .i64 0) (.int .i64 0) (.slice none 0 0) 29).later al)
  have m0 := (cell_new (w.alloc (.cells #[.int .i64 0, .int .i64 0, .slice none 0 0] 29)) #[.int .i64 r, .int .i64 c, .slice a zs.length cap] 29 0).trans rfl
  have m1 := (cell_new (w.alloc (.cells #[.int .i64 0, .int .i64 0, .slice none 0 0] 29)) #[.int .i64 r, .int .i64 c, .slice a zs.length cap] 29 1).trans rfl
  have m2 := (cell_new (w.alloc (.cells #[.int .i64 0, .int .i64 0, .slice none 0 0] 29)) #[.int .i64 r, .int .i64 c, .slice a zs.length cap] 29 2).trans rfl
  have mf := World.frozen?_alloc_new (w.alloc (.cells #[.int .i64 0, .int .i64 0, .slice none 0 0] 29)) #[.int .i64 r, .int .i64 c, .slice a zs.length cap] 29
  rw [hs] at m0 m1 m2 mf
  have HV := Lib.hid (hv.below AL2)
  have HR := Lib.hid (fun W => mright_any r c a zs.length cap W)
  have HM := Lib.hid (And.intro m0 (And.intro m1 (And.intro m2 mf)))
  have B2 := Lib.hid AL2
  unfold OfMat
  clear hv al hs AL1 AL2 m0 m1 m2 mf
  cases hr : rightB r c zs.length
  · rw [hr] at HR
    clear hr
    go_enter Try.func11, Try.ntmps11
    go_upto_region 2 with fail
    generalize ((w.alloc (.cells #[.int .i64 0, .int .i64 0, .slice none 0 0] 29)).alloc (.cells #[.int .i64 r, .int .i64 c, .slice a zs.length cap] 29)) = W2 at *
    obtain ⟨m0, m1, m2, mf⟩ := HM.out
    go_wp2_with fail
    refine (HR.out _).mono ?_
    rintro e w1 ⟨rfl, b1⟩
    obtain ⟨⟨x, c0⟩, ⟨y, c1⟩, ⟨z, c2⟩, f0, f1, f2⟩ := CR.out.later b1
    have ST := Lib.hid (stored3 ⟨⟨x, c0⟩, ⟨y, c1⟩, ⟨z, c2⟩, f0, f1, f2⟩ (.int .i64 0) (.int .i64 0) (.slice none 0 0))
    have B3 := Lib.hid (below_step B2.out b1)
    clear b1 m0 m1 m2 mf
    go_wp2_with fail
    (try simp only [Exit.inBlock, Exit.then])
    have D0 := ST.out.1
    have D1 := ST.out.2.1
    have D2 := ST.out.2.2.1
    refine bodyPost_ret (v := .tuple #[.agg #[.int .i64 0, .int .i64 0, .slice none 0 0], .bool false]) (by simp [results, Try.results11, D0, D1, D2, go_sem]) rfl ⟨rfl, ?_⟩
    exact B3.out.trans ST.out.2.2.2
  · rw [hr] at HR
    clear hr
    generalize hU : w.heap.size + 1 = U at *
    go_enter Try.func11, Try.ntmps11
    go_upto_region 2 with fail
    generalize ((w.alloc (.cells #[.int .i64 0, .int .i64 0, .slice none 0 0] 29)).alloc (.cells #[.int .i64 r, .int .i64 c, .slice a zs.length cap] 29)) = W2 at *
    obtain ⟨m0, m1, m2, mf⟩ := HM.out
    try rw [hU]
    go_wp2_with fail
    refine (HR.out _).mono ?_
    rintro e w1 ⟨rfl, b1⟩
    have C1 := Lib.hid (CR.out.later b1)
    have B1 := Lib.hid (below_step B2.out b1)
    have V1 := Lib.hid ((HV.out.below (b1.mono B2.out.size)).grow B1.out.size)
    have m0 := cell_step b1 (m0.trans rfl)
    have m1 := cell_step b1 (m1.trans rfl)
    have f2 := frozen_step b1 (m2.trans rfl) (mf 2)
    have m2 := cell_step b1 (m2.trans rfl)
    have hUw : U < w1.heap.size := World.block_lt_of_cell? _ _ m0
    clear b1 mf
    go_wp2_with fail
    refine (vclone_w (.slice a zs.length cap) zs (by omega) _ _ (Nat.le_refl _) V1.out).mono ?_
    rintro e w3 ⟨u, rfl, o3, b3⟩
    have O3 := Lib.hid o3
    have B3 := Lib.hid (below_step B1.out b3)
    have C3 := Lib.hid (C1.out.later b3)
    have f2 := frozen_step b3 m2 f2
    have m0 := cell_step b3 m0
    have m1 := cell_step b3 m1
    have m2 := cell_step b3 m2
    obtain ⟨a3, cp3, rfl⟩ := own_value o3
    clear o3 b3
    have m2s : (w3.setCell ⟨U, 2, none⟩ (.slice a3 zs.length cp3)).cell? ⟨U, 2, none⟩ = some (.slice a3 zs.length cp3) := World.cell?_setCell_same _ _ _ m2
    have m0s := (World.cell?_setCell_other w3 ⟨U, 2, none⟩ ⟨U, 0, none⟩ (.slice a3 zs.length cp3) (by simp)).trans m0
    have m1s := (World.cell?_setCell_other w3 ⟨U, 2, none⟩ ⟨U, 1, none⟩ (.slice a3 zs.length cp3) (by simp)).trans m1
    have BU := below_set (Below.refl U w3) (Nat.le_refl U) (o := 2) (x := .slice a3 zs.length cp3)
    obtain ⟨⟨x, c0⟩, ⟨y, c1⟩, ⟨z, c2⟩, g0, g1, g2⟩ := C3.out
    have hNU : w.heap.size < U := by omega
    have CS := Lib.hid (⟨⟨x, (BU.cell (p := ⟨w.heap.size, 0, none⟩) hNU).trans c0⟩, ⟨y, (BU.cell (p := ⟨w.heap.size, 1, none⟩) hNU).trans c1⟩, ⟨z, (BU.cell (p := ⟨w.heap.size, 2, none⟩) hNU).trans c2⟩, (BU.frozen (p := ⟨w.heap.size, 0, none⟩) hNU).trans g0, (BU.frozen (p := ⟨w.heap.size, 1, none⟩) hNU).trans g1, (BU.frozen (p := ⟨w.heap.size, 2, none⟩) hNU).trans g2⟩ : Cell3 w.heap.size (w3.setCell ⟨U, 2, none⟩ (.slice a3 zs.length cp3)))
    have O4 := Lib.hid (ownsRow_setCell_below O3.out (a := ⟨U, 2, none⟩) hUw (.slice a3 zs.length cp3))
    have B4 := Lib.hid (B3.out.trans (BU.mono (Nat.le_of_lt hNU)))
    clear BU c0 c1 c2 g0 g1 g2
    go_upto_region 5 with fail
    clear m0 m1 m2 f2
    generalize w3.setCell ⟨U, 2, none⟩ (.slice a3 zs.length cp3) = w4 at *
    obtain ⟨⟨x, c0⟩, ⟨y, c1⟩, ⟨z, c2⟩, f0, f1, f2⟩ := CS.out
    have ST := Lib.hid (stored3 CS.out (.int .i64 r) (.int .i64 c) (.slice a3 zs.length cp3))
    go_wp2_with fail
    (try simp only [Exit.inBlock, Exit.then])
    have D0 := ST.out.1
    have D1 := ST.out.2.1
    have D2 := ST.out.2.2.1
    refine bodyPost_ret (v := .tuple #[.agg #[.int .i64 r, .int .i64 c, .slice a3 zs.length cp3], .bool true]) (by simp [results, Try.results11, D0, D1, D2, go_sem]) rfl ?_
    have hNw : w.heap.size < w1.heap.size := by omega
    exact ⟨_, rfl, owns_mono (Nat.le_of_lt hNw) (ownsRow_setCell_below (ownsRow_setCell_below (ownsRow_setCell_below O4.out (a := ⟨w.heap.size, 0, none⟩) hNw _) (a := ⟨w.heap.size, 1, none⟩) hNw _) (a := ⟨w.heap.size, 2, none⟩) hNw _), B4.out.trans ST.out.2.2.2⟩
end Go.Proofs.Ytinflmjombcolaa
