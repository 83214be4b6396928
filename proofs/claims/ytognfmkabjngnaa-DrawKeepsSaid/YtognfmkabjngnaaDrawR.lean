/- The iterator All, and the range over it. -/
import Derived.RangeFuncNested
import Derived.RangeFuncBound
import Derived.RangeFuncCalls
import Derived.RangeFuncLeaves
import Derived.RangeFuncBox
import Derived.Shelf.Abstract
import Derived.Shelf.RegionOpen
import Derived.OwnWalkIn
import Derived.TacticsInMore
import Derived.LoopNIn
import Derived.LoopIn
import Derived.Laws.EntriesVeiled
import Derived.Outline
import Derived.Test.YtognfmkabjngnaaDrawL
import Derived.Test.YtognfmkabjngnaaRanB
namespace Go.Proofs.Ytognfmkabjngnaa
open Go.RowKit
set_option linter.unusedVariables false
theorem run_equalIn_nil_func {P : Program} (d : Nat) {t : TypeId} {ps rs : Array TypeId} {va : Bool} (h : P.underlying t = some (.func ps rs va)) (f : Fn) (rb lb : Array Value) (w : World) : (Op.equalIn (d + 1) t (.func f rb lb) .nilFunc).run P w = .ok false w := by
  simp [Op.equalIn, run_underlying h]
theorem run_equal_nil_func {P : Program} {t : TypeId} {ps rs : Array TypeId} {va : Bool} (h : P.underlying t = some (.func ps rs va)) (f : Fn) (rb lb : Array Value) (w : World) : (Op.equal t (.func f rb lb) .nilFunc).run P w = .ok false w :=
  run_equalIn_nil_func 9999 h f rb lb w
theorem run_eql_nil_func {P : Program} {t : TypeId} {ps rs : Array TypeId} {va : Bool} (h : P.underlying t = some (.func ps rs va)) (f : Fn) (rb lb : Array Value) (w : World) : (binOp .eql t (.func f rb lb) .nilFunc).run P w = .ok (.bool false) w := by
  simp only [binOp]
  simp [run_equal_nil_func h]
/-- what All yields -/
def encA (zs : List Int) (k j : Nat) : Array Value := #[.int .i64 ((k + j : Nat) : Int), .int .u64 (zs[k + j]?.getD 0)]
section
attribute [local go_sem] Oper.semAt_some
set_option maxRecDepth 100000 in
set_option maxHeartbeats 2000000 in
theorem all_in (n : Nat) (hn : 1 ≤ n) (l b : Nat) (zs : List Int) (k : Nat) (hm : zs.length ≤ 1048576) (W : World) (J Jx : Nat → World → Prop) (hJ : AbidesFrom W.heap.size J) (hN : ∀ j W1, J j W1 → StreamAt b W1 zs k)
    (hY : ∀ j W1, j < zs.length - k → J j W1 → YieldAt Fence.wide (n - 1) Try.prog l (encA zs k j) W1 fun e W' => (e = .returned (.bool true) ∧ J (j + 1) W') ∨ (e = .returned (.bool false) ∧ Jx (j + 1) W'))
    (h0 : J 0 W) :
    CallsIn Fence.wide n Try.prog 9 #[.pointer (some ⟨b, 0, none⟩), .func (.yield l) #[] #[]] W fun e W' => (∃ v, e = .returned v) ∧ (J (zs.length - k) W' ∨ ∃ j, Jx j W') := by
  obtain ⟨hb, hk, v0, c0, c1, fz, hI⟩ := hN 0 W h0
  refine callsIn_of_wp Try.func9 rfl trivial ?_ rfl
  simp only [Try.ntmps9, List.size_toArray, List.length_cons, List.length_nil, Nat.reduceAdd, Nat.reduceSub, Array.replicate_succ, Array.replicate_zero, List.push_toArray, List.append_toArray, List.nil_append, List.cons_append]
  have HJ := Lib.hid hJ
  have HY := Lib.hid hY
  have HN := Lib.hid hN
  have HI := Lib.hid hI
  clear hJ hY hN hI c0
  have hnf := run_eql_nil_func Try.underlying47 (.yield l) #[] #[] W
  gi_wp2
  clear c1 fz hnf
  gi_loopw [4] (fun i wr => ∃ m : Nat, k ≤ m ∧ m ≤ zs.length ∧ i = .int .i64 m ∧ J (m - k) wr) (fun i _ => zs.length - (intOf i).toNat)
  case atStart => exact ⟨k, Nat.le_refl _, hk, rfl, by rw [Nat.sub_self]; exact h0⟩
  case round =>
    obtain ⟨m, hkm, hml, rfl, hJs⟩ := hrel
    have HJs := Lib.hid hJs
    obtain ⟨hb2, _, v, c0, c1, fz, hI⟩ := HN.out _ _ hJs
    clear hJs c1 fz
    by_cases hlt : m < zs.length
    · rcases hI.form with ⟨_, e0⟩ | ⟨g, off, cap, rfl, hcap, hg, hcs⟩
      · rw [e0] at hlt; cases hlt
      have cz := hcs m hlt
      have i0 : (0 : Int) ≤ (m : Int) := by omega
      have i1 : (m : Int) < (zs.length : Int) := by omega
      have wk : IntKind.i64.wrap ((m : Int) + 1) = m + 1 := IntWalk.i64_in _ (by omega)
      obtain ⟨fn, tmps, assign, body, hyy, hR⟩ := HY.out (m - k) wr (by omega) HJs.out
      unfold encA at hyy
      rw [show k + (m - k) = m by omega] at hyy
      clear hcs hI
      generalize zs[m]?.getD 0 = z at *
      gi_wp2_with fail
      refine hR.mono ?_
      rintro e W5 (⟨rfl, hJ5⟩ | ⟨rfl, hJx5⟩)
      · have HJ5 := Lib.hid hJ5
        clear hJ5 hyy hR
        gi_wp2_with fail
        go_roundw
        case rel => exact ⟨m + 1, by omega, by omega, by go_num, by rw [show m + 1 - k = m - k + 1 by omega]; exact HJ5.out⟩
        case measure => simp [intOf]; omega
      · have HJx := Lib.hid hJx5
        clear hJx5 hyy hR
        gi_wp2_with fail
        refine bodyPost_ret (results_none rfl _ _ _) rfl ?_
        exact ⟨⟨_, rfl⟩, .inr ⟨_, HJx.out⟩⟩
    · have hk' : m = zs.length := by omega
      subst hk'
      obtain ⟨a, cap, rfl⟩ := ints_value hI
      clear hI
      gi_wp2
      go_end0
      exact ⟨⟨_, rfl⟩, .inl HJs.out⟩
theorem all_yields (n : Nat) (hn : 1 ≤ n) (b : Nat) (zs : List Int) (k : Nat) (hm : zs.length ≤ 1048576) (w : World) :
    Yields Fence.wide n Try.prog 9 #[.pointer (some ⟨b, 0, none⟩)] #[] (encA zs k) (zs.length - k) (fun W => StreamAt b W zs k) w :=
  fun l J Jx W _ hJ hN hY h0 => all_in n hn l b zs k hm W J Jx hJ hN hY h0
theorem all_none (n : Nat) (w : World) : Yields Fence.wide n Try.prog 9 #[.pointer none] #[] (fun j => #[.int .i64 j, .int .u64 0]) 0 (fun _ => True) w := by
  intro l J Jx W _ hJ hN hY h0
  show CallsIn Fence.wide n Try.prog 9 #[.pointer none, .func (.yield l) #[] #[]] W _
  refine callsIn_of_wp Try.func9 rfl trivial ?_ rfl
  simp only [Try.ntmps9, List.size_toArray, List.length_cons, List.length_nil, Nat.reduceAdd, Nat.reduceSub, Array.replicate_succ, Array.replicate_zero, List.push_toArray, List.append_toArray, List.nil_append, List.cons_append]
  gi_wp2
  refine bodyPost_ret (results_none rfl _ _ _) rfl ?_
  exact ⟨⟨_, rfl⟩, .inl h0⟩
end
end Go.Proofs.Ytognfmkabjngnaa
