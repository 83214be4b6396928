/- The library's functions at this program's own types, by the shelf's contracts. -/
import Derived.Shelf.SlicesE.Reverse
import Derived.Shelf.SlicesE.Clone
import Derived.Test.YtinflmjombcolaaProg
import Derived.Test.YtinflmjombcolaaRows2
namespace Go.Proofs.Ytinflmjombcolaa
open Go.RowKit Go.Shelf
set_option linter.unusedVariables false
def vcloneRen : Go.Shelf.Ren := ⟨fun | 41 => 40 | n => n, fun | 22 => 27 | 23 => 2 | 4 => 4 | n => n, fun | n => n⟩
theorem vcloneLays : Go.Proofs.SlLaysE0.n41 Try.prog vcloneRen := {
  mixed := by kernel_rfl
  f41 := ⟨Try.f40.name, by decide, Try.func40.trans (congrArg some (by kernel_rfl))⟩
  t4 := Try.underlying4
  a4 := Try.isAgg4
  z4 := Try.sizeOf4
  v4 := Try.zeroValue4
  t22 := Try.underlying27
  a22 := Try.isAgg27
  z22 := Try.sizeOf27
  v22 := Try.zeroValue27 }
theorem info64 : ∃ i, Try.prog.info? 2 = some i ∧ i.zero = some (.int .i64 0) ∧ i.size = 1 ∧ i.bytes = 8 := info_parts (show (Try.prog.info? 2).map (fun i => (i.zero, i.size, i.bytes)) = some (some (.int .i64 0), 1, 8) by kernel_rfl)
/-- a copy of a vector -/
theorem vcloneS (v : Value) (zs : List Int) (hm : zs.length * 8 ≤ 140737488351232) (w : World) (hL : IntsAt .i64 w.heap.size w v zs) :
    Calls Try.prog 40 #[v] w (ClonedTo 2 1 zs.length (zs.map (Value.int .i64)) w) := by
  rcases hL.form with ⟨rfl, rfl⟩ | ⟨b, off, cap', rfl, hcap, hb, hcs⟩
  · refine (AnyE.slices_Clone_nil vcloneLays 0 0 w).mono ?_
    rintro e w' ⟨rfl, rfl⟩
    exact ⟨_, rfl, World.ownsRow_nil _ _ _ _, Below.refl _ _⟩
  · obtain ⟨i0, hi, hz0, hz1, hz2⟩ := info64
    refine (AnyE.slices_Clone vcloneLays i0 (.int .i64 0) 1 8 hi hz0 hz1 hz2 rfl (by decide) (by first | exact Try.sizeOf2 | intro w; kernel_rfl) b off zs.length cap' (zs.map (Value.int .i64)) w (by simp) (by unfold maxLen; omega) (by omega) ?_ ?_).mono ?_
    · intro j u hj
      rw [List.getElem?_map] at hj
      have hlt : j < zs.length := by
        apply Nat.lt_of_not_le; intro hge
        rw [List.getElem?_eq_none hge] at hj; cases hj
      rw [List.getElem?_eq_getElem hlt] at hj
      rw [hcs j hlt, List.getElem?_eq_getElem hlt]
      simpa using hj
    · intro u hu
      simp only [List.mem_map] at hu
      obtain ⟨z, _, rfl⟩ := hu
      rfl
    · rintro e w' ⟨v, rfl, ho, _, hb'⟩
      exact ⟨v, rfl, ho, hb'⟩
/-- an empty one, wherever it points -/
theorem vclone0 (a : Addr) (c : Nat) (w : World) :
    Calls Try.prog 40 #[.slice (some a) 0 c] w (ClonedTo 2 1 0 [] w) := by
  obtain ⟨i0, hi, hz0, hz1, hz2⟩ := info64
  have q22 : ∀ (w : World) (a : Option Addr) (n c n' c' : Nat), (binOp .eql 27 (.slice a n c) (.slice none n' c')).run Try.prog w = .ok (.bool a.isNone) w := fun w a n c n' c' => Go.Lib.run_eql_slice_nil w _ _ a n c n' c' Try.underlying27
  have ho := World.ownsRow_lit (w := w) (e := 2) (size := 1) (base := w.heap.size) #[] 0 (Nat.le_refl _) (by simp) rfl
  have HO := Lib.hid ho
  clear ho
  go_enter Try.func40, Try.ntmps40
  go_wp2_with (at_builtin; refine wpList_append_own _ rfl _ _ 27 rfl w.heap.size 2 i0 (.int .i64 0) 1 8 Try.underlying27 hi hz0 hz1 hz2 rfl (by decide) _ _ _ rfl HO.out a 0 c [] rfl rfl ?c1 ?c2 ?c3 ?c4 ?c5 ?_; (case c1 => intro j u hj; cases hj); (case c2 => simp); (case c3 => simp); (case c4 => simp); (case c5 => simp); intro v' w1 hown1 hgrow1 _; have hg1 := Lib.hid hgrow1; have ho1 := Lib.hid hown1; clear hgrow1 hown1)
  go_ret
  refine ⟨_, rfl, by simpa using ho1.out, ?_⟩
  exact ((Below.refl w.heap.size w).alloc (Nat.le_refl _) _).grown hg1.out (by simp) (fun k e => (HO.out.lt k e).1)
theorem vclone_w (v : Value) (zs : List Int) (hm : zs.length * 8 ≤ 140737488351232) (n₀ : Nat) (w : World) (h0 : n₀ ≤ w.heap.size) (hL : IntsW .i64 n₀ w v zs) :
    Calls Try.prog 30 #[v] w (ClonedTo 2 1 zs.length (zs.map (Value.int .i64)) w) := by
  have HC : Hid (Calls Try.prog 40 #[v] w (ClonedTo 2 1 zs.length (zs.map (Value.int .i64)) w)) := by
    refine Lib.hid ?_
    rcases hL with ⟨rfl, a, c, rfl⟩ | hL
    · exact vclone0 a c w
    · exact vcloneS v zs hm w (hL.grow h0)
  obtain ⟨a, c, rfl⟩ := hL.value
  clear hL
  go_enter Try.func30, Try.ntmps30
  go_wp2_with fail
  refine HC.out.mono ?_
  rintro e w' ⟨v, rfl, ho, hb⟩
  have HO := Lib.hid ho
  clear ho
  go_wp2_with fail
  go_ret
  exact ⟨v, rfl, HO.out, hb⟩
end Go.Proofs.Ytinflmjombcolaa
