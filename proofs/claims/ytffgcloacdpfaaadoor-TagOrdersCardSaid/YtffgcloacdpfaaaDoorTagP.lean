/- Tags packed into two numbers. -/
import Derived.Test.YtffgcloacdpfaaaDoorTagC
namespace Go.Proofs.YtffgcloacdpfaaaDoor
open Go.RowKit
set_option linter.unusedVariables false
def packU (a b : Int) : Int := a * 1048576 + b
def packV (c d e_ : Int) : Int := (c * 64 + d) * 1048576 + e_
def RightT (a b c d e_ : Int) : Prop := (0 ≤ a ∧ a ≤ 1048575) ∧ (0 ≤ b ∧ b ≤ 1048575) ∧ (0 ≤ c ∧ c ≤ 1) ∧ (0 ≤ d ∧ d ≤ 62) ∧ (0 ≤ e_ ∧ e_ ≤ 1048575)
theorem right_is {a b c d e_ : Int} (h : rightB a b c d e_ = true) : RightT a b c d e_ := by
  unfold rightB at h
  rw [decide_eq_true_iff] at h
  have h0 := h 0 (by omega)
  have h1 := h 1 (by omega)
  have h2 := h 2 (by omega)
  have h3 := h 3 (by omega)
  have h4 := h 4 (by omega)
  simp only [tagXs, tagMs, List.getElem?_cons_zero, List.getElem?_cons_succ, Option.getD_some] at h0 h1 h2 h3 h4
  exact ⟨h0, h1, h2, h3, h4⟩
set_option maxHeartbeats 2000000 in
theorem pack_yes (a b c d e_ : Int) (h : RightT a b c d e_) (hr : rightB a b c d e_ = true) (w : World) :
    Calls Tryd.prog 8 #[.agg #[.int .i64 a, .int .i64 b, .int .i64 c, .int .i64 d, .int .i64 e_]] w fun e w' => e = .returned (.tuple #[.agg #[.int .u64 (packU a b), .int .u64 (packV c d e_)], .bool true]) ∧ Below w.heap.size w w' := by
  have HR := Lib.hid (fun W => right_any a b c d e_ W)
  rw [hr] at HR
  have AL := (Below.refl w.heap.size w).alloc (Nat.le_refl _) (.cells #[.int .i64 a, .int .i64 b, .int .i64 c, .int .i64 d, .int .i64 e_] 23)
  have al2 := (Below.refl (w.alloc (.cells #[.int .i64 a, .int .i64 b, .int .i64 c, .int .i64 d, .int .i64 e_] 23)).heap.size (w.alloc (.cells #[.int .i64 a, .int .i64 b, .int .i64 c, .int .i64 d, .int .i64 e_] 23))).alloc (Nat.le_refl _) (.cells #[.int .u64 0, .int .u64 0] 25)
  have c0 := cells_five w (.int .i64 a) (.int .i64 b) (.int .i64 c) (.int .i64 d) (.int .i64 e_) 23
  have q0 := cell_step al2 (c0 0 (by omega))
  have q1 := cell_step al2 (c0 1 (by omega))
  have q2 := cell_step al2 (c0 2 (by omega))
  have q3 := cell_step al2 (c0 3 (by omega))
  have q4 := cell_step al2 (c0 4 (by omega))
  have u01 := cells_two (w.alloc (.cells #[.int .i64 a, .int .i64 b, .int .i64 c, .int .i64 d, .int .i64 e_] 23)) (.int .u64 0) (.int .u64 0) 25
  have uf := World.frozen?_alloc_new (w.alloc (.cells #[.int .i64 a, .int .i64 b, .int .i64 c, .int .i64 d, .int .i64 e_] 23)) #[.int .u64 0, .int .u64 0] 25
  have hz : (w.alloc (.cells #[.int .i64 a, .int .i64 b, .int .i64 c, .int .i64 d, .int .i64 e_] 23)).heap.size = w.heap.size + 1 := by simp
  rw [hz] at u01 uf
  have u0 := u01.1
  have u1 := u01.2
  have f0 := uf 0
  have f1 := uf 1
  have B2 := below_step AL al2
  have hz2 : ((w.alloc (.cells #[.int .i64 a, .int .i64 b, .int .i64 c, .int .i64 d, .int .i64 e_] 23)).alloc (.cells #[.int .u64 0, .int .u64 0] 25)).heap.size = w.heap.size + 2 := by simp
  clear c0 u01 uf AL al2 hz
  obtain ⟨⟨h1, h2⟩, ⟨h3, h4⟩, ⟨h5, h6⟩, ⟨h7, h8⟩, h9, h10⟩ := h
  go_enter Tryd.func8, Tryd.ntmps8
  go_wp2_with fail
  generalize ((w.alloc (.cells #[.int .i64 a, .int .i64 b, .int .i64 c, .int .i64 d, .int .i64 e_] 23)).alloc (.cells #[.int .u64 0, .int .u64 0] 25)) = W0 at *
  refine (HR.out W0).mono ?_
  rintro e w1 ⟨rfl, b1⟩
  have B1 := below_step B2 b1
  have q0 := cell_step b1 q0
  have q1 := cell_step b1 q1
  have q2 := cell_step b1 q2
  have q3 := cell_step b1 q3
  have q4 := cell_step b1 q4
  have f0 := frozen_step b1 u0 f0
  have f1 := frozen_step b1 u1 f1
  have u0 := cell_step b1 u0
  have u1 := cell_step b1 u1
  go_wp2_with fail
  have ST := stored2 (.int .u64 (a * 1048576 + b)) (.int .u64 ((c * 64 + d) * 1048576 + e_)) u0 u1 f0 f1
  have hs0 := ST.1
  have hs1 := ST.2.1
  (try simp only [Exit.inBlock, Exit.then])
  refine bodyPost_ret (v := .tuple #[.agg #[.int .u64 (a * 1048576 + b), .int .u64 ((c * 64 + d) * 1048576 + e_)], .bool true]) (by simp [results, Tryd.results8, hs0, hs1, go_sem]) rfl ?_
  exact ⟨rfl, B1.trans (ST.2.2.2.2.mono (by omega))⟩
set_option maxHeartbeats 2000000 in
theorem pack_no (a b c d e_ : Int) (hr : rightB a b c d e_ = false) (w : World) :
    Calls Tryd.prog 8 #[.agg #[.int .i64 a, .int .i64 b, .int .i64 c, .int .i64 d, .int .i64 e_]] w fun e w' => e = .returned (.tuple #[.agg #[.int .u64 0, .int .u64 0], .bool false]) ∧ Below w.heap.size w w' := by
  have HR := Lib.hid (fun W => right_any a b c d e_ W)
  rw [hr] at HR
  have AL := (Below.refl w.heap.size w).alloc (Nat.le_refl _) (.cells #[.int .i64 a, .int .i64 b, .int .i64 c, .int .i64 d, .int .i64 e_] 23)
  have al2 := (Below.refl (w.alloc (.cells #[.int .i64 a, .int .i64 b, .int .i64 c, .int .i64 d, .int .i64 e_] 23)).heap.size (w.alloc (.cells #[.int .i64 a, .int .i64 b, .int .i64 c, .int .i64 d, .int .i64 e_] 23))).alloc (Nat.le_refl _) (.cells #[.int .u64 0, .int .u64 0] 25)
  have c0 := cells_five w (.int .i64 a) (.int .i64 b) (.int .i64 c) (.int .i64 d) (.int .i64 e_) 23
  have q0 := cell_step al2 (c0 0 (by omega))
  have q1 := cell_step al2 (c0 1 (by omega))
  have q2 := cell_step al2 (c0 2 (by omega))
  have q3 := cell_step al2 (c0 3 (by omega))
  have q4 := cell_step al2 (c0 4 (by omega))
  have u01 := cells_two (w.alloc (.cells #[.int .i64 a, .int .i64 b, .int .i64 c, .int .i64 d, .int .i64 e_] 23)) (.int .u64 0) (.int .u64 0) 25
  have uf := World.frozen?_alloc_new (w.alloc (.cells #[.int .i64 a, .int .i64 b, .int .i64 c, .int .i64 d, .int .i64 e_] 23)) #[.int .u64 0, .int .u64 0] 25
  have hz : (w.alloc (.cells #[.int .i64 a, .int .i64 b, .int .i64 c, .int .i64 d, .int .i64 e_] 23)).heap.size = w.heap.size + 1 := by simp
  rw [hz] at u01 uf
  have u0 := u01.1
  have u1 := u01.2
  have f0 := uf 0
  have f1 := uf 1
  have B2 := below_step AL al2
  have hz2 : ((w.alloc (.cells #[.int .i64 a, .int .i64 b, .int .i64 c, .int .i64 d, .int .i64 e_] 23)).alloc (.cells #[.int .u64 0, .int .u64 0] 25)).heap.size = w.heap.size + 2 := by simp
  clear c0 u01 uf AL al2 hz
  go_enter Tryd.func8, Tryd.ntmps8
  go_wp2_with fail
  generalize ((w.alloc (.cells #[.int .i64 a, .int .i64 b, .int .i64 c, .int .i64 d, .int .i64 e_] 23)).alloc (.cells #[.int .u64 0, .int .u64 0] 25)) = W0 at *
  refine (HR.out W0).mono ?_
  rintro e w1 ⟨rfl, b1⟩
  have B1 := below_step B2 b1
  have f0 := frozen_step b1 u0 f0
  have f1 := frozen_step b1 u1 f1
  have u0 := cell_step b1 u0
  have u1 := cell_step b1 u1
  go_wp2_with fail
  have ST := stored2 (.int .u64 0) (.int .u64 0) u0 u1 f0 f1
  have hs0 := ST.1
  have hs1 := ST.2.1
  (try simp only [Exit.inBlock, Exit.then])
  refine bodyPost_ret (v := .tuple #[.agg #[.int .u64 0, .int .u64 0], .bool false]) (by simp [results, Tryd.results8, hs0, hs1, go_sem]) rfl ?_
  exact ⟨rfl, B1.trans (ST.2.2.2.2.mono (by omega))⟩
theorem refPack_any (a b c d e_ : Int) (h : RightT a b c d e_) (w : World) :
    Calls Tryd.prog 13 #[.agg #[.int .i64 a, .int .i64 b, .int .i64 c, .int .i64 d, .int .i64 e_]] w fun e w' => e = .returned (.agg #[.int .u64 (packU a b), .int .u64 (packV c d e_)]) ∧ Below w.heap.size w w' := by
  have AL := (Below.refl w.heap.size w).alloc (Nat.le_refl _) (.cells #[.int .i64 a, .int .i64 b, .int .i64 c, .int .i64 d, .int .i64 e_] 23)
  have al2 := (Below.refl (w.alloc (.cells #[.int .i64 a, .int .i64 b, .int .i64 c, .int .i64 d, .int .i64 e_] 23)).heap.size (w.alloc (.cells #[.int .i64 a, .int .i64 b, .int .i64 c, .int .i64 d, .int .i64 e_] 23))).alloc (Nat.le_refl _) (.cells #[.int .u64 0, .int .u64 0] 25)
  have c0 := cells_five w (.int .i64 a) (.int .i64 b) (.int .i64 c) (.int .i64 d) (.int .i64 e_) 23
  have q0 := cell_step al2 (c0 0 (by omega))
  have q1 := cell_step al2 (c0 1 (by omega))
  have q2 := cell_step al2 (c0 2 (by omega))
  have q3 := cell_step al2 (c0 3 (by omega))
  have q4 := cell_step al2 (c0 4 (by omega))
  have u01 := cells_two (w.alloc (.cells #[.int .i64 a, .int .i64 b, .int .i64 c, .int .i64 d, .int .i64 e_] 23)) (.int .u64 0) (.int .u64 0) 25
  have uf := World.frozen?_alloc_new (w.alloc (.cells #[.int .i64 a, .int .i64 b, .int .i64 c, .int .i64 d, .int .i64 e_] 23)) #[.int .u64 0, .int .u64 0] 25
  have hz : (w.alloc (.cells #[.int .i64 a, .int .i64 b, .int .i64 c, .int .i64 d, .int .i64 e_] 23)).heap.size = w.heap.size + 1 := by simp
  rw [hz] at u01 uf
  have u0 := u01.1
  have u1 := u01.2
  have f0 := uf 0
  have f1 := uf 1
  have B2 := below_step AL al2
  have hz2 : ((w.alloc (.cells #[.int .i64 a, .int .i64 b, .int .i64 c, .int .i64 d, .int .i64 e_] 23)).alloc (.cells #[.int .u64 0, .int .u64 0] 25)).heap.size = w.heap.size + 2 := by simp
  clear c0 u01 uf AL al2 hz
  obtain ⟨⟨h1, h2⟩, ⟨h3, h4⟩, ⟨h5, h6⟩, ⟨h7, h8⟩, h9, h10⟩ := h
  go_enter Tryd.func13, Tryd.ntmps13
  go_wp2_with fail
  have k01 := cells_two (w.alloc (.cells #[.int .i64 a, .int .i64 b, .int .i64 c, .int .i64 d, .int .i64 e_] 23)) (.int .u64 (a * 1048576 + b)) (.int .u64 ((c * 64 + d) * 1048576 + e_)) 25
  have hz : (w.alloc (.cells #[.int .i64 a, .int .i64 b, .int .i64 c, .int .i64 d, .int .i64 e_] 23)).heap.size = w.heap.size + 1 := by simp
  rw [hz] at k01
  have hs0 := k01.1
  have hs1 := k01.2
  have BF := below_step ((Below.refl w.heap.size w).alloc (Nat.le_refl _) (.cells #[.int .i64 a, .int .i64 b, .int .i64 c, .int .i64 d, .int .i64 e_] 23)) ((Below.refl (w.alloc (.cells #[.int .i64 a, .int .i64 b, .int .i64 c, .int .i64 d, .int .i64 e_] 23)).heap.size (w.alloc (.cells #[.int .i64 a, .int .i64 b, .int .i64 c, .int .i64 d, .int .i64 e_] 23))).alloc (Nat.le_refl _) (.cells #[.int .u64 (a * 1048576 + b), .int .u64 ((c * 64 + d) * 1048576 + e_)] 25))
  (try simp only [Exit.inBlock, Exit.then])
  refine bodyPost_ret (v := .agg #[.int .u64 (a * 1048576 + b), .int .u64 ((c * 64 + d) * 1048576 + e_)]) (by simp [results, Tryd.results13, hs0, hs1, go_sem]) rfl ?_
  exact ⟨rfl, BF⟩
end Go.Proofs.YtffgcloacdpfaaaDoor
