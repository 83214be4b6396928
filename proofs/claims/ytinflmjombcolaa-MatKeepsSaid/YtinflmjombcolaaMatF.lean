/- Layer 7: rows, and that two matrices are the same. -/
import Derived.Test.YtinflmjombcolaaMatD
namespace Go.Proofs.Ytinflmjombcolaa
open Go.RowKit
set_option linter.unusedVariables false
theorem rows_any (r c : Int) (a : Option Addr) (n cap : Nat) (w : World) :
    Calls Try.prog 34 #[.agg #[.int .i64 r, .int .i64 c, .slice a n cap]] w fun e w' => e = .returned (.func (.func 41) #[] #[.pointer (some ⟨w.heap.size, 0, none⟩)]) ∧
      w' = w.alloc (.cells #[.int .i64 r, .int .i64 c, .slice a n cap] 29) := by
  go_enter Try.func34, Try.ntmps34
  go_wp2
  go_ret
  exact ⟨rfl, rfl⟩
set_option maxHeartbeats 2000000 in
theorem same_same (r c : Int) (v u : Value) (zs : List Int) (hm : zs.length ≤ 1048576) (w : World) (hv : IntsW .i64 w.heap.size w v zs) (hu : IntsW .i64 w.heap.size w u zs) :
    Calls Try.prog 14 #[.agg #[.int .i64 r, .int .i64 c, v], .agg #[.int .i64 r, .int .i64 c, u]] w fun e w' => e = .returned (.bool true) ∧ Below w.heap.size w w' := by
  obtain ⟨a, cap, rfl⟩ := hv.value
  obtain ⟨a', cap', rfl⟩ := hu.value
  have AL1 := (Below.refl w.heap.size w).alloc (Nat.le_refl _) (.cells #[.int .i64 r, .int .i64 c, .slice a zs.length cap] 24)
  have AL2 := below_alloc (o := .cells #[.int .i64 r, .int .i64 c, .slice a' zs.length cap'] 24) AL1
  have hs : (w.alloc (.cells #[.int .i64 r, .int .i64 c, .slice a zs.length cap] 24)).heap.size = w.heap.size + 1 := by simp
  have al := (Below.refl (w.alloc (.cells #[.int .i64 r, .int .i64 c, .slice a zs.length cap] 24)).heap.size (w.alloc (.cells #[.int .i64 r, .int .i64 c, .slice a zs.length cap] 24))).alloc (Nat.le_refl _) (.cells #[.int .i64 r, .int .i64 c, .slice a' zs.length cap'] 24)
  have p2 := cell_step al ((cell_new w #[.int .i64 r, .int .i64 c, .slice a zs.length cap] 24 2).trans rfl)
  have q2 := (cell_new (w.alloc (.cells #[.int .i64 r, .int .i64 c, .slice a zs.length cap] 24)) #[.int .i64 r, .int .i64 c, .slice a' zs.length cap'] 24 2).trans rfl
  rw [hs] at q2
  have HV := Lib.hid (hv.below AL2)
  have HU := Lib.hid (hu.below AL2)
  have HB := Lib.hid AL2
  have hbs : w.heap.size + 1 < ((w.alloc (.cells #[.int .i64 r, .int .i64 c, .slice a zs.length cap] 24)).alloc (.cells #[.int .i64 r, .int .i64 c, .slice a' zs.length cap'] 24)).heap.size := by simp
  have hbs0 : w.heap.size < ((w.alloc (.cells #[.int .i64 r, .int .i64 c, .slice a zs.length cap] 24)).alloc (.cells #[.int .i64 r, .int .i64 c, .slice a' zs.length cap'] 24)).heap.size := by simp; omega
  have P2 := Lib.hid p2
  have Q2 := Lib.hid q2
  clear hv hu al hs AL1 AL2 p2 q2
  go_enter Try.func14, Try.ntmps14
  go_upto_region 3 with fail
  generalize ((w.alloc (.cells #[.int .i64 r, .int .i64 c, .slice a zs.length cap] 24)).alloc (.cells #[.int .i64 r, .int .i64 c, .slice a' zs.length cap'] 24)) = W2 at *
  go_wp2_with fail
  go_loopw [5] (fun i wr => ∃ k q : Nat, k ≤ zs.length ∧ i = .int .i64 k ∧ wr = W2.drewN q) (fun i _ => zs.length - (intOf i).toNat)
  case atStart => exact ⟨0, 0, Nat.zero_le _, rfl, rfl⟩
  case round =>
    obtain ⟨k, q, hk, rfl, rfl⟩ := hrel
    have p2 := P2.out
    have q2 := Q2.out
    by_cases hlt : k < zs.length
    · rcases (HV.out.at (by omega)).form with ⟨_, e0⟩ | ⟨b, off, cap1, e0, _, hb, hcs⟩
      · rw [e0] at hlt; cases hlt
      cases e0
      rcases (HU.out.at (by omega)).form with ⟨_, e0⟩ | ⟨b', off', cap2, e0, _, hb', hcs'⟩
      · rw [e0] at hlt; cases hlt
      cases e0
      have c0 := hcs k hlt
      have c1 := hcs' k hlt
      have hl1 := World.block_lt_of_cell? _ _ c0
      have hl2 := World.block_lt_of_cell? _ _ c1
      clear hcs hcs'
      generalize zs[k]?.getD 0 = y at c0 c1
      go_wp2
      go_quiet (fail)
      go_wp2
      go_roundw
      case rel => exact ⟨k + 1, _, by omega, by go_num, rfl⟩
      case measure => simp [intOf]; omega
    · have hk' : k = zs.length := by omega
      subst hk'
      go_wp2
      go_ret
      exact ⟨rfl, below_drewN HB.out _⟩
end Go.Proofs.Ytinflmjombcolaa
