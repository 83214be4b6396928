/- Layer 15: a loop over ranges that are shifted one by one. -/
import Derived.RangeFuncNested
import Derived.RangeFuncBound
import Derived.RangeFuncCalls
import Derived.RangeFuncLeaves
import Derived.RangeFuncBox
import Derived.Shelf.Abstract
import Derived.Shelf.RegionOpen
import Derived.OwnWalkIn
import Derived.TacticsInMore
import Derived.LoopNIn
import Derived.LoopIn
import Derived.Laws.EntriesVeiled
import Derived.Outline
import Derived.Test.YtpghiebedjogpaaBucA
namespace Go.Proofs.Ytpghiebedjogpaa
open Go.RowKit Go.Shelf
set_option linter.unusedVariables false
/-- what lay below a block, and some boxes, lie as they lay -/
def KeepB (n₀ : Nat) (L : List (Nat × TypeId × Value)) (W W' : World) : Prop := Below n₀ W W' ∧ ∀ x ∈ L, Boxed W x.1 x.2.1 x.2.2 → Boxed W' x.1 x.2.1 x.2.2
theorem KeepB.trans {n₀ : Nat} {L : List (Nat × TypeId × Value)} {A B C : World} (h : KeepB n₀ L A B) (k : KeepB n₀ L B C) : KeepB n₀ L A C := ⟨h.1.trans k.1, fun x hx hb => k.2 x hx (h.2 x hx hb)⟩
theorem KeepB.refl (n₀ : Nat) (L : List (Nat × TypeId × Value)) (A : World) : KeepB n₀ L A A := ⟨Below.refl _ _, fun _ _ h => h⟩
theorem keepB_b {n₀ : Nat} {L : List (Nat × TypeId × Value)} {w : World} (hn : n₀ ≤ w.heap.size) (hL : ∀ x ∈ L, x.1 < w.heap.size) (W : World) (l : Nat) (o o' : Obj) (hl : w.heap.size ≤ l) (ho : W.heap[l]? = some o) (h1 : o.isCells = false) (h2 : o.isWalk = false) : KeepB n₀ L W (W.putObj l o') :=
  ⟨belowK_b hn W l o o' hl ho h1 h2, fun x hx hb => hb.kept (grownBy_putObj' W l o') (fun e => by have := hL x hx; cases e; omega)⟩
theorem keepB_grown {n₀ : Nat} {L : List (Nat × TypeId × Value)} {W W' : World} (h : Below W.heap.size W W') (hn : n₀ ≤ W.heap.size) : KeepB n₀ L W W' :=
  ⟨h.mono hn, fun x hx hb => by have hlt := hb.lt; exact (h.block _ hlt).trans hb⟩
set_option maxHeartbeats 1000000 in
theorem shift1_any (lo hi by_ : Int) (h1 : -1099511627776 ≤ lo) (h2 : lo ≤ 1099511627776) (h3 : -1099511627776 ≤ hi) (h4 : hi ≤ 1099511627776) (h5 : -1099511627776 ≤ by_) (h6 : by_ ≤ 1099511627776) (B : Nat) (w : World) (hB : w.cell? ⟨B, 0, none⟩ = some (.int .i64 by_)) :
    Calls Try.prog 38 #[.agg #[.int .i64 lo, .int .i64 hi], .pointer (some ⟨B, 0, none⟩)] w fun e w' => e = .returned (.agg #[.int .i64 (lo + by_), .int .i64 (hi + by_)]) ∧ Below w.heap.size w w' := by
  have hBl : B < w.heap.size := World.block_lt_of_cell? _ _ hB
  go_enter Try.func38, Try.ntmps38
  go_wp2
  refine bodyPost_ret (v := .agg #[.int .i64 (lo + by_), .int .i64 (hi + by_)]) (by simp [results, Try.results38, go_sem]) rfl ⟨rfl, ?_⟩
  exact ((Below.refl _ _).alloc (Nat.le_refl _) _).alloc (by simp) _
set_option maxHeartbeats 1000000 in
theorem shifted_any (a : Option Addr) (n c : Nat) (by_ : Int) (w : World) :
    Calls Try.prog 36 #[.slice a n c, .int .i64 by_] w fun e w' => e = .returned (.func (.func 39) #[] #[.pointer (some ⟨w.heap.size, 0, none⟩), .pointer (some ⟨w.heap.size + 1 + 1, 0, none⟩)]) ∧
      w' = ((w.alloc (.cells #[.slice a n c] 28)).alloc (.cells #[.int .i64 by_] 3)).alloc (.cells #[.func (.func 38) #[] #[.pointer (some ⟨w.heap.size + 1, 0, none⟩)]] 65) := by
  go_enter Try.func36, Try.ntmps36
  go_wp2
  go_ret
  exact ⟨rfl, rfl⟩

def shiftR (rs : List (Int × Int)) (by_ : Int) : List (Int × Int) := rs.map fun r => (r.1 + by_, r.2 + by_)
theorem shiftR_length (rs : List (Int × Int)) (by_ : Int) : (shiftR rs by_).length = rs.length := by simp [shiftR]
theorem shiftR_take (rs : List (Int × Int)) (by_ : Int) (k : Nat) (h : k < rs.length) : (shiftR rs by_).take (k + 1) = (shiftR rs by_).take k ++ [(rs[k].1 + by_, rs[k].2 + by_)] := by
  rw [List.take_succ_eq_append_getElem (by rw [shiftR_length]; exact h)]
  simp [shiftR]
/-- ranges that can be shifted without an overflow -/
def Near (rs : List (Int × Int)) : Prop := ∀ r ∈ rs, (-1099511627776 ≤ r.1 ∧ r.1 ≤ 1099511627776) ∧ -1099511627776 ≤ r.2 ∧ r.2 ≤ 1099511627776
def encR (x : Int × Int) : Array Value := #[.agg #[.int .i64 x.1, .int .i64 x.2]]
section
attribute [local go_sem] Oper.semAt_some
set_option maxRecDepth 100000 in
set_option maxHeartbeats 2000000 in
theorem shift2_in (n : Nat) (hn : 1 ≤ n) (l Bl Bs By n₀ : Nat) (v : Value) (rs : List (Int × Int)) (by_ : Int) (hm : rs.length ≤ 1048576) (hr : Near rs) (h5 : -1099511627776 ≤ by_) (h6 : by_ ≤ 1099511627776)
    (W : World) (J Jx : List (Int × Int) → World → Prop) (hJ : AbidesFrom W.heap.size J) (L : List (Nat × TypeId × Value))
    (hLs : (Bs, 65, Value.func (.func 38) #[] #[.pointer (some ⟨By, 0, none⟩)]) ∈ L) (hLy : (By, 3, Value.int .i64 by_) ∈ L)
    (hY : ∀ pre x W1, J pre W1 → pre.length < rs.length → YieldAt Fence.wide (n - 1) Try.prog l (encR x) W1 fun e W' =>
      (e = .returned (.bool true) ∧ J (pre ++ [x]) W' ∧ KeepB n₀ L W1 W') ∨ (e = .returned (.bool false) ∧ Jx (pre ++ [x]) W'))
    (hn₀ : n₀ ≤ W.heap.size) (hv : RangesAt n₀ W v rs) (hl : Boxed W Bl 28 v) (hs : Boxed W Bs 65 (.func (.func 38) #[] #[.pointer (some ⟨By, 0, none⟩)])) (hy : Boxed W By 3 (.int .i64 by_)) (h0 : J [] W) :
    CallsIn Fence.wide n Try.prog 39 #[.func (.yield l) #[] #[], .pointer (some ⟨Bl, 0, none⟩), .pointer (some ⟨Bs, 0, none⟩)] W fun e W' => (∃ v, e = .returned v) ∧
      ((∃ ys, ys = shiftR rs by_ ∧ J ys W') ∨ (∃ pre, pre <+: shiftR rs by_ ∧ Jx pre W')) := by
  obtain ⟨a, c, rfl⟩ := hv.value
  have hlc := hl.cell
  have hll := hl.lt
  refine callsIn_of_wp Try.func39 rfl trivial ?_ rfl
  simp only [Try.ntmps39, List.size_toArray, List.length_cons, List.length_nil, Nat.reduceAdd, Nat.reduceSub, Array.replicate_succ, Array.replicate_zero, List.push_toArray, List.append_toArray, List.nil_append, List.cons_append]
  gi_wp2
  have HJ := Lib.hid hJ
  have HY := Lib.hid hY
  have HV := Lib.hid hv
  have HR := Lib.hid hr
  clear hJ hY hv hr hlc
  gi_loopw [5, 8] (fun _ i wr => ∃ k : Nat, k ≤ rs.length ∧ i = .int .i64 k ∧ J ((shiftR rs by_).take k) wr ∧ Below n₀ W wr ∧ Boxed wr Bs 65 (.func (.func 38) #[] #[.pointer (some ⟨By, 0, none⟩)]) ∧ Boxed wr By 3 (.int .i64 by_))
    (fun _ i _ => rs.length - (intOf i).toNat)
  case atStart => exact ⟨0, Nat.zero_le _, rfl, h0, Below.refl _ _, hs, hy⟩
  case round =>
    obtain ⟨k, hk, rfl, hJs, hB, hs1, hy1⟩ := hrel
    by_cases hlt : k < rs.length
    · rcases HV.out.form with ⟨_, e0⟩ | ⟨b, off, cap, e0, _, hb, hcs⟩
      · rw [e0] at hlt; cases hlt
      cases e0
      have c0 := (hB.cell (p := ⟨b, off + k * 2, none⟩) hb).trans (hcs k hlt).1
      have c1 := (hB.cell (p := ⟨b, off + k * 2 + 1, none⟩) hb).trans (hcs k hlt).2
      have hnr := HR.out rs[k] (List.getElem_mem hlt)
      have HT := Lib.hid (shiftR_take rs by_ k hlt)
      clear hcs
      generalize rs[k].1 = lo at c0 hnr HT
      generalize rs[k].2 = hi at c1 hnr HT
      obtain ⟨⟨g1, g2⟩, g3, g4⟩ := hnr
      have hbw : b < wr.heap.size := World.block_lt_of_cell? _ _ c0
      have HB := Lib.hid hB
      have HJs := Lib.hid hJs
      have Hs := Lib.hid hs1
      have Hy := Lib.hid hy1
      have cs := hs1.cell
      have csl := hs1.lt
      clear hB hJs hs1 hy1
      gi_wp2_with fail
      refine ⟨trivial, ?_⟩
      refine (callsIn_wide.2 (shift1_any lo hi by_ g1 g2 g3 g4 h5 h6 By _ (Hy.out.alloc _).cell)).mono ?_
      rintro e W4 ⟨rfl, b4⟩
      have b5 : Below wr.heap.size wr W4 := below_step ((Below.refl wr.heap.size wr).alloc (Nat.le_refl _) _) b4 (by simp)
      have hJ4 := HJ.out _ _ _ none HJs.out (grown_below b5 none) (fun r e => by cases e)
      obtain ⟨fn, tmps, assign, body, hyy, hR⟩ := HY.out _ (lo + by_, hi + by_) W4 hJ4 (by rw [List.length_take, shiftR_length]; omega)
      unfold encR at hyy
      dsimp only at hyy
      have B4 := Lib.hid (HB.out.trans (b5.mono (Nat.le_trans hn₀ HB.out.size)))
      have s4 := Lib.hid ((keepB_grown (L := L) b5 (Nat.le_trans hn₀ HB.out.size)).2 _ hLs Hs.out)
      have y4 := Lib.hid ((keepB_grown (L := L) b5 (Nat.le_trans hn₀ HB.out.size)).2 _ hLy Hy.out)
      clear hJ4 b4 b5
      gi_wp2_with fail
      refine hR.mono ?_
      rintro e W5 (⟨rfl, hJ5, hk5⟩ | ⟨rfl, hJx5⟩)
      · have HJ5 := Lib.hid hJ5
        have HK5 := Lib.hid hk5
        have s5 := Lib.hid (hk5.2 _ hLs s4.out)
        have y5 := Lib.hid (hk5.2 _ hLy y4.out)
        clear hJ5 hk5 hyy hR
        gi_wp2_with fail
        go_roundw
        case rel => exact ⟨k + 1, by omega, by go_num, by rw [HT.out]; exact HJ5.out, B4.out.trans HK5.out.1, s5.out, y5.out⟩
        case measure => simp [intOf]; omega
      · have HJx := Lib.hid hJx5
        clear hJx5 hyy hR
        gi_wp2_with fail
        refine bodyPost_ret (results_none rfl _ _ _) rfl ?_
        exact ⟨⟨_, rfl⟩, .inr ⟨_, ⟨(shiftR rs by_).drop (k + 1), by rw [← HT.out, List.take_append_drop]⟩, HJx.out⟩⟩
    · have hk' : k = rs.length := by omega
      subst hk'
      have hJe : J (shiftR rs by_) wr := by
        have h := hJs
        rw [List.take_of_length_le (by rw [shiftR_length]; exact Nat.le_refl _)] at h
        exact h
      have HJe := Lib.hid hJe
      clear hJs hJe
      gi_wp2
      go_end0
      exact ⟨⟨_, rfl⟩, .inl ⟨_, rfl, HJe.out⟩⟩
end
end Go.Proofs.Ytpghiebedjogpaa
