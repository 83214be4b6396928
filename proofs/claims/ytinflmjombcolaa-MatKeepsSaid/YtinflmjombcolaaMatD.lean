/- Layer 7: a loop over the rows of a matrix. -/
import Derived.RangeFuncNested
import Derived.RangeFuncBound
import Derived.RangeFuncCalls
import Derived.RangeFuncLeaves
import Derived.RangeFuncBox
import Derived.Shelf.Abstract
import Derived.Shelf.RegionOpen
import Derived.OwnWalkIn
import Derived.TacticsInMore
import Derived.LoopNIn
import Derived.LoopIn
import Derived.Laws.EntriesVeiled
import Derived.Outline
import Derived.Test.YtinflmjombcolaaMatC
namespace Go.Proofs.Ytinflmjombcolaa
open Go.RowKit Go.Shelf
set_option linter.unusedVariables false
/-- the box of a matrix -/
def BoxM (W : World) (B R C : Nat) (v : Value) : Prop := W.heap[B]? = some (.cells #[.int .i64 R, .int .i64 C, v] 29 (0, 0))
theorem BoxM.lt {W : World} {B R C : Nat} {v : Value} (h : BoxM W B R C v) : B < W.heap.size := (Array.getElem?_eq_some_iff.1 h).1
theorem BoxM.cells {W : World} {B R C : Nat} {v : Value} (h : BoxM W B R C v) : W.cell? ⟨B, 0, none⟩ = some (.int .i64 R) ∧ W.cell? ⟨B, 1, none⟩ = some (.int .i64 C) ∧ W.cell? ⟨B, 2, none⟩ = some v := by
  refine ⟨?_, ?_, ?_⟩ <;> simp [World.cell?, show W.heap[B]? = _ from h]
theorem BoxM.new (W : World) (R C : Nat) (v : Value) : BoxM (W.alloc (.cells #[.int .i64 R, .int .i64 C, v] 29)) W.heap.size R C v := World.alloc_heap_new W _
/-- what lay below a block, and the box of a matrix, lie as they lay -/
def KeepM (n₀ B R C : Nat) (v : Value) (W W' : World) : Prop := Below n₀ W W' ∧ (BoxM W B R C v → BoxM W' B R C v)
theorem KeepM.trans {n₀ B R C : Nat} {v : Value} {X Y Z : World} (h : KeepM n₀ B R C v X Y) (k : KeepM n₀ B R C v Y Z) : KeepM n₀ B R C v X Z := ⟨h.1.trans k.1, fun x => k.2 (h.2 x)⟩
theorem keepM_grown {n₀ B R C : Nat} {v : Value} {W W' : World} (h : Below W.heap.size W W') (hn : n₀ ≤ W.heap.size) : KeepM n₀ B R C v W W' :=
  ⟨h.mono hn, fun hb => (h.block _ hb.lt).trans hb⟩
def encM (b off C : Nat) {R : Nat} (r : Fin R) : Array Value := #[.int .i64 r.val, .slice (some ⟨b, off + r.val * C, none⟩) C C]
theorem fin_take {R k : Nat} (h : k < R) : (List.finRange R).take (k + 1) = (List.finRange R).take k ++ [⟨k, h⟩] := by
  rw [List.take_succ_eq_append_getElem (by simpa using h)]
  simp
section
attribute [local go_sem] Oper.semAt_some
set_option maxRecDepth 100000 in
set_option maxHeartbeats 2000000 in
theorem rows_in (n : Nat) (hn : 1 ≤ n) (l Bm n₀ : Nat) (R C m cap b off : Nat) (hC0 : 1 ≤ C) (hC : C ≤ 1048576) (hR : R ≤ 1048576) (hm : m = R * C) (hm20 : m ≤ 1048576) (hcap : m ≤ cap)
    (W : World) (J Jx : List (Fin R) → World → Prop) (hJ : AbidesFrom W.heap.size J)
    (hY : ∀ pre x W1, J pre W1 → pre.length < R → YieldAt Fence.wide (n - 1) Try.prog l (encM b off C x) W1 fun e W' =>
      (e = .returned (.bool true) ∧ J (pre ++ [x]) W' ∧ KeepM n₀ Bm R C (.slice (some ⟨b, off, none⟩) m cap) W1 W') ∨ (e = .returned (.bool false) ∧ Jx (pre ++ [x]) W'))
    (hn₀ : n₀ ≤ W.heap.size) (hbm : BoxM W Bm R C (.slice (some ⟨b, off, none⟩) m cap)) (h0 : J [] W) :
    CallsIn Fence.wide n Try.prog 41 #[.func (.yield l) #[] #[], .pointer (some ⟨Bm, 0, none⟩)] W fun e W' => (∃ v, e = .returned v) ∧
      ((∃ ys, ys = List.finRange R ∧ J ys W') ∨ (∃ pre, pre <+: List.finRange R ∧ Jx pre W')) := by
  have hc0 := hbm.cells.1
  have hbl := hbm.lt
  refine callsIn_of_wp Try.func41 rfl trivial ?_ rfl
  simp only [Try.ntmps41, List.size_toArray, List.length_cons, List.length_nil, Nat.reduceAdd, Nat.reduceSub, Array.replicate_succ, Array.replicate_zero, List.push_toArray, List.append_toArray, List.nil_append, List.cons_append]
  gi_wp2
  have HJ := Lib.hid hJ
  have HY := Lib.hid hY
  have HM := Lib.hid hm
  clear hJ hY hc0 hm
  gi_loopw [3, 6] (fun _ i wr => ∃ k : Nat, k ≤ R ∧ i = .int .i64 k ∧ J ((List.finRange R).take k) wr ∧ Below n₀ W wr ∧ BoxM wr Bm R C (.slice (some ⟨b, off, none⟩) m cap))
    (fun _ i _ => R - (intOf i).toNat)
  case atStart => exact ⟨0, Nat.zero_le _, rfl, h0, Below.refl _ _, hbm⟩
  case round =>
    obtain ⟨k, hk, rfl, hJs, hB, hb1⟩ := hrel
    by_cases hlt : k < R
    · have HB := Lib.hid hB
      have HJs := Lib.hid hJs
      have Hb := Lib.hid hb1
      have cs := hb1.cells.1
      have cs1 := hb1.cells.2.1
      have cs2 := hb1.cells.2.2
      have csl := hb1.lt
      clear hB hJs hb1
      gi_wp2_with fail
      refine ⟨trivial, ?_⟩
      refine (callsIn_wide.2 (row_any R C k m cap b off hC0 hC hR HM.out hm20 hcap hlt _)).mono ?_
      rintro e W4 ⟨rfl, b4⟩
      have hJ4 := HJ.out _ _ _ none HJs.out (grown_below b4 none) (fun r e => by cases e)
      obtain ⟨fn, tmps, assign, body, hyy, hR'⟩ := HY.out _ ⟨k, hlt⟩ W4 hJ4 (by rw [List.length_take, List.length_finRange]; omega)
      unfold encM at hyy
      dsimp only at hyy
      have hks := keepM_grown (n₀ := n₀) (B := Bm) (R := R) (C := C) (v := .slice (some ⟨b, off, none⟩) m cap) b4 (Nat.le_trans hn₀ HB.out.size)
      have B4 := Lib.hid (HB.out.trans hks.1)
      have s4 := Lib.hid (hks.2 Hb.out)
      clear hJ4 b4 hks cs cs1 cs2
      gi_wp2_with fail
      refine hR'.mono ?_
      rintro e W5 (⟨rfl, hJ5, hk5⟩ | ⟨rfl, hJx5⟩)
      · have HJ5 := Lib.hid hJ5
        have HK5 := Lib.hid hk5
        have s5 := Lib.hid (hk5.2 s4.out)
        clear hJ5 hk5 hyy hR'
        gi_wp2_with fail
        go_roundw
        case rel => exact ⟨k + 1, by omega, by go_num, by rw [fin_take hlt]; exact HJ5.out, B4.out.trans HK5.out.1, s5.out⟩
        case measure => simp [intOf]; omega
      · have HJx := Lib.hid hJx5
        clear hJx5 hyy hR'
        gi_wp2_with fail
        refine bodyPost_ret (results_none rfl _ _ _) rfl ?_
        refine ⟨⟨_, rfl⟩, .inr ⟨_, ?_, HJx.out⟩⟩
        rw [← fin_take hlt]
        exact ⟨(List.finRange R).drop (k + 1), List.take_append_drop _ _⟩
    · have hk' : k = R := by omega
      subst hk'
      have HJe := Lib.hid (show J (List.finRange k) wr by rw [List.take_of_length_le (by simp)] at hJs; exact hJs)
      clear hJs
      gi_wp2
      go_end0
      exact ⟨⟨_, rfl⟩, .inl ⟨_, rfl, HJe.out⟩⟩
end
end Go.Proofs.Ytinflmjombcolaa
