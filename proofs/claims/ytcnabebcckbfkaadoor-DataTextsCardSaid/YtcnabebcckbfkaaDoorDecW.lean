/- Layer 2: split where no number is; the candidate; Parse. -/
import Derived.Test.YtcnabebcckbfkaaDoorDecR
namespace Go.Proofs.YtcnabebcckbfkaaDoor
open Go.RowKit
set_option linter.unusedVariables false
set_option maxHeartbeats 4000000 in
theorem split_out (s : ByteArray) (q : Int) (hq : inQ q = false ∨ inQ q = true ∧ 83 < s.size) (w : World) :
    Calls Tryd.prog 55 #[.string s, .int .i64 q] w fun e w' => e = .returned (.tuple #[.bool false, .agg #[.slice none 0 0, .slice none 0 0], .bool false]) ∧ Below w.heap.size w w' := by
  have HR := Lib.hid (fun W => right2_any q W)
  obtain ⟨J, hJ⟩ : ∃ J : Act → World → Prop, J = (fun a' wj => ∃ u0 u1 u2 u3 u4 u6 u7 u8 u9 u10 u11 u12 u13 u14 u15 u16 u17 u18 u19 u20 u21 u22 u23 u24 u25 u26 u27 u28 u29 u30 u31 u32 u33 u34 u35 u36 u37 u38 u39 u40 u41 u42 u43 u44 u45 u46 u47 u48 u49 u50 u51 u52 u53 u54 u55 u56 u57 u58 u59 u60 u61 u62 u63 u64 u65 : Value, a' = { tmps := #[u0, u1, u2, u3, u4, (.pointer (some ⟨w.heap.size, 0, none⟩)), u6, u7, u8, u9, u10, u11, u12, u13, u14, u15, u16, u17, u18, u19, u20, u21, u22, u23, u24, u25, u26, u27, u28, u29, u30, u31, u32, u33, u34, u35, u36, u37, u38, u39, u40, u41, u42, u43, u44, u45, u46, u47, u48, u49, u50, u51, u52, u53, u54, u55, u56, u57, u58, u59, u60, u61, u62, u63, u64, u65], defers := [] } ∧ BadAt w wj) := ⟨_, rfl⟩
  have HJ := Lib.hid hJ
  clear hJ
  go_enter Tryd.func55, Tryd.ntmps55
  go_wp2_with fail
  refine wp_scope_jumps 0 J (fun _ _ => 0) rfl ?first ?pass
  case pass =>
    have hJ := HJ.out
    intro a' wj hj
    rw [hJ] at hj
    obtain ⟨u0, u1, u2, u3, u4, u6, u7, u8, u9, u10, u11, u12, u13, u14, u15, u16, u17, u18, u19, u20, u21, u22, u23, u24, u25, u26, u27, u28, u29, u30, u31, u32, u33, u34, u35, u36, u37, u38, u39, u40, u41, u42, u43, u44, u45, u46, u47, u48, u49, u50, u51, u52, u53, u54, u55, u56, u57, u58, u59, u60, u61, u62, u63, u64, u65, rfl, ⟨x0, x1, c0, c1, f0, f1, hB⟩⟩ := hj
    clear hJ HJ
    have hl := World.block_lt_of_cell? _ _ c0
    go_wp2_with fail
    simp only [Exit.jump]
    have c1' := (World.cell?_setCell_other wj ⟨w.heap.size, 0, none⟩ ⟨w.heap.size, 1, none⟩ (.slice none 0 0) (by simp)).trans c1
    have E0 := (World.cell?_setCell_other (wj.setCell ⟨w.heap.size, 0, none⟩ (.slice none 0 0)) ⟨w.heap.size, 1, none⟩ ⟨w.heap.size, 0, none⟩ (.slice none 0 0) (by simp)).trans (World.cell?_setCell_same wj ⟨w.heap.size, 0, none⟩ (.slice none 0 0) c0)
    have E1 := World.cell?_setCell_same (wj.setCell ⟨w.heap.size, 0, none⟩ (.slice none 0 0)) ⟨w.heap.size, 1, none⟩ (.slice none 0 0) c1'
    exact bodyPost_ret (v := .tuple #[.bool false, .agg #[.slice none 0 0, .slice none 0 0], .bool false]) (by simp [results, Tryd.results55, E0, E1, go_sem]) rfl ⟨rfl, below_set (below_set hB (Nat.le_refl _)) (Nat.le_refl _)⟩
  case first =>
    have hB0 : BadAt w (w.alloc (Obj.cells #[Value.slice none 0 0, Value.slice none 0 0] 90)) := by
      refine ⟨_, _, (cell_new w #[Value.slice none 0 0, Value.slice none 0 0] 90 0).trans rfl, (cell_new w #[Value.slice none 0 0, Value.slice none 0 0] 90 1).trans rfl, ?_, ?_, (Below.refl w.heap.size w).alloc (Nat.le_refl _) _⟩
      · simp only [World.frozen?]; rw [(MapKept.heap_alloc w (Obj.cells #[Value.slice none 0 0, Value.slice none 0 0] 90)).1]; rfl
      · simp only [World.frozen?]; rw [(MapKept.heap_alloc w (Obj.cells #[Value.slice none 0 0, Value.slice none 0 0] 90)).1]; rfl
    have HB0 := Lib.hid hB0
    clear hB0
    rcases hq with h | ⟨h, h2⟩
    · rw [h] at HR
      clear h
      go_wp2_with fail
      refine (HR.out _).mono ?_
      rintro e w' ⟨rfl, rfl⟩
      go_wp2_with fail
      go_step3
      refine ⟨rfl, ?_⟩
      rw [HJ.out]
      exact ⟨_, _, _, _, _, _, _, _, _, _, _, _, _, _, _, _, _, _, _, _, _, _, _, _, _, _, _, _, _, _, _, _, _, _, _, _, _, _, _, _, _, _, _, _, _, _, _, _, _, _, _, _, _, _, _, _, _, _, _, _, _, _, _, _, _, rfl, HB0.out⟩
    · rw [h] at HR
      have h2i : 83 < (s.size : Int) := by omega
      clear h
      go_wp2_with fail
      refine (HR.out _).mono ?_
      rintro e w' ⟨rfl, rfl⟩
      go_wp2_with fail
      go_step3
      refine ⟨rfl, ?_⟩
      rw [HJ.out]
      exact ⟨_, _, _, _, _, _, _, _, _, _, _, _, _, _, _, _, _, _, _, _, _, _, _, _, _, _, _, _, _, _, _, _, _, _, _, _, _, _, _, _, _, _, _, _, _, _, _, _, _, _, _, _, _, _, _, _, _, _, _, _, _, _, _, _, _, rfl, HB0.out⟩
end Go.Proofs.YtcnabebcckbfkaaDoor
