/- Layer 18: whether calls are few and short; blocks of any number of cells. -/
import Derived.Test.YtgbgmmakiimbbaaLnkY
import Derived.Test.YtgbgmmakiimbbaaLnkPN
import Derived.LoopN
namespace Go.Proofs.Ytgbgmmakiimbbaa
open Go.RowKit
set_option linter.unusedVariables false
/-- a block of cells -/
def Blk (w : World) (b : Nat) (t : TypeId) (cs : Array Value) : Prop := w.heap[b]? = some (.cells cs t (0, 0))
section
variable {w w' : World} {b : Nat} {t : TypeId} {cs : Array Value}
theorem Blk.new (w : World) (t : TypeId) (cs : Array Value) : Blk (w.alloc (.cells cs t)) w.heap.size t cs := (MapKept.heap_alloc _ _).1
theorem Blk.lt (h : Blk w b t cs) : b < w.heap.size := (Array.getElem?_eq_some_iff.1 h).1
theorem Blk.later (h : Blk w b t cs) (hb : Below w.heap.size w w') : Blk w' b t cs := (hb.block b h.lt).trans h
theorem Blk.kept {row : Option Nat} (h : Blk w b t cs) (hg : w.grownBy w' row) (hne : some b ≠ row) : Blk w' b t cs := (hg.block b h.lt hne).trans h
theorem Blk.cell (h : Blk w b t cs) {j : Nat} {x : Value} (hx : cs[j]? = some x) : w.cell? ⟨b, j, none⟩ = some x := by
  have e : w.heap[b]? = _ := h
  simp only [World.cell?, e]
  exact hx
theorem Blk.not_row (h : Blk w b t cs) {base size n : Nat} {e : TypeId} {v : Value} {xs : List Value} (hr : w.ownsRow base e size v n xs) (hne : t ≠ e) : v.ownBlock = none ∨ v.ownBlock ≠ some b := by
  rcases hr.2 with ⟨rfl, _⟩ | ⟨g, c, cur, rfl, _, hg, _⟩
  · exact .inl rfl
  · refine .inr fun e' => ?_
    obtain rfl : g = b := Option.some.inj e'
    have e1 : w.heap[g]? = some (.cells cs t (0, 0)) := h
    rw [hg] at e1
    simp at e1
    exact hne e1.2.symm
theorem Blk.touch {l B cap rcv hi : Nat} {q : List Ms} (h : Blk w b t cs) (hl : LinkAt l B cap q rcv hi w) (ht : Touch l (ringB l w) w w') (hk : b ≠ l) (hm : t ≠ 34) : Blk w' b t cs := by
  obtain ⟨hbB, hBw, first, R, rv, cs', h1, h2, _⟩ := hl
  rw [ringB_of h1] at ht
  refine (ht.2 b h.lt hk (fun e => ?_)).trans h
  rcases h.not_row h2 hm with h' | h'
  · rw [h'] at e; cases e
  · exact h' e.symm
end
def lensO : List Opr → Nat
  | [] => 0
  | x :: xs => min x.m.zs.length 1000 + lensO xs
def fewOB (xs : List Opr) : Bool := decide (lensO xs ≤ 1000) && decide (xs.length ≤ 100)
theorem lensO_append (xs ys : List Opr) : lensO (xs ++ ys) = lensO xs + lensO ys := by
  induction xs with
  | nil => simp [lensO]
  | cons x xs ih => simp [lensO, ih]; omega
theorem lensO_take {xs : List Opr} {j : Nat} {x : Opr} (h : xs[j]? = some x) : lensO (xs.take (j + 1)) = lensO (xs.take j) + min x.m.zs.length 1000 := by
  rw [List.take_add_one, h, lensO_append]
  simp [lensO]
theorem lensO_le (xs : List Opr) (j : Nat) : lensO (xs.take j) ≤ lensO xs := by
  have := lensO_append (xs.take j) (xs.drop j)
  rw [List.take_append_drop] at this
  omega
set_option maxHeartbeats 1000000 in
theorem few18_any (v : Value) (xs : List Opr) (hl : xs.length ≤ maxLen) (n₀ : Nat) (w : World) (hn0 : n₀ ≤ w.heap.size) (hz : ∀ x ∈ xs, x.m.zs.length * 8 ≤ 140737488351232) (hv : OpsAt n₀ w v xs) :
    Calls Try.prog 9 #[v] w fun e w' => e = .returned (.bool (fewOB xs)) ∧ Below w.heap.size w w' := by
  unfold maxLen at hl
  obtain ⟨a, c, rfl⟩ := hv.value
  have HV := Lib.hid hv
  have HZ := Lib.hid hz
  clear hv hz
  have h0 : Hid (0 = lensO (xs.take 0)) := Lib.hid (by simp [lensO])
  go_enter Try.func9, Try.ntmps9
  go_wp2_with fail
  go_loopw [3, 5, 8] (fun n _ i wr => ∃ (j s : Nat), j ≤ xs.length ∧ i = .int .i64 j ∧ n = .int .i64 s ∧ s = lensO (xs.take j) ∧ s ≤ 1000 ∧ Below w.heap.size w wr) (fun _ _ i _ => xs.length - (intOf i).toNat)
  case atStart => exact ⟨0, 0, Nat.zero_le _, rfl, rfl, h0.out, by omega, Below.refl _ _⟩
  case round =>
    clear h0
    obtain ⟨j, s, hj, rfl, rfl, hs, hs2, hB⟩ := hrel
    by_cases hlt : j < xs.length
    · have hdec : decide ((j : Int) < (xs.length : Int)) = true := by simp; omega
      have wj : IntKind.i64.wrap ((j : Int) + 1) = j + 1 := IntWalk.i64_in _ (by omega)
      obtain ⟨x, hx⟩ : ∃ x, xs[j]? = some x := ⟨_, List.getElem?_eq_getElem hlt⟩
      have hst := lensO_take hx
      have hle := lensO_le xs (j + 1)
      rw [← hs] at hst
      rcases HV.out.below (hB.mono hn0) with ⟨rfl, _⟩ | ⟨g, off, cp, e0, hgn, hc⟩
      · simp at hlt
      cases e0
      obtain ⟨u, ⟨x0, x1, x2, x3, x4, x5, x6, x7⟩, hu⟩ := hc j x hx
      obtain ⟨ua, uc, rfl⟩ := hu.value
      have hxz := HZ.out x (List.mem_of_getElem? hx)
      obtain ⟨k, ⟨⟨ta, tb, tc, td, te⟩, zs⟩, f⟩ := x
      dsimp only at x0 x1 x2 x3 x4 x5 x6 x7 hst hxz
      have i0 : (0 : Int) ≤ (j : Int) := by omega
      have i1 : (j : Int) < (xs.length : Int) := by omega
      have hb8 := Blk.new wr 36 #[.int .i64 k, .int .i64 ta, .int .i64 tb, .int .i64 tc, .int .i64 td, .int .i64 te, .slice ua zs.length uc, .bool f]
      have y6 := hb8.cell (j := 6) rfl
      have B8 := Lib.hid (hB.alloc hB.size (.cells #[.int .i64 k, .int .i64 ta, .int .i64 tb, .int .i64 tc, .int .i64 td, .int .i64 te, .slice ua zs.length uc, .bool f] 36))
      have HST := Lib.hid hst
      have HLE := Lib.hid hle
      clear hst hle hc hu hb8 hB hx
      go_upto_region 5 with fail
      generalize wr.alloc (.cells #[.int .i64 k, .int .i64 ta, .int .i64 tb, .int .i64 tc, .int .i64 td, .int .i64 te, .slice ua zs.length uc, .bool f] 36) = w8 at *
      clear x0 x1 x2 x3 x4 x5 x6 x7
      obtain ⟨d, hd⟩ : ∃ d, d = min zs.length 1000 := ⟨_, rfl⟩
      have hd1 : d ≤ 1000 := by omega
      have ws : IntKind.i64.wrap ((s : Int) + (d : Int)) = ((s + d : Nat) : Int) := (IntWalk.i64_in _ (by omega)).trans (by omega)
      have ws2 : (s : Int) + (d : Int) = ((s + d : Nat) : Int) := by omega
      have HD := Lib.hid hd
      obtain ⟨s1, hs1⟩ : ∃ s1, s1 = s + d := ⟨_, rfl⟩
      rw [← hs1] at ws ws2
      have HS1 := Lib.hid hs1
      have hE : s1 = lensO (xs.take (j + 1)) := by have := HST.out; omega
      have HE := Lib.hid hE
      clear hE hs hs1 hd ws ws2
      by_cases hbig : s1 ≤ 1000
      · have hb2 : decide ((1000 : Int) < (s1 : Int)) = false := by simp; omega
        rcases Nat.lt_or_ge 1000 zs.length with h9 | h9
        · have g1 : (1000 : Int) < (zs.length : Int) := by omega
          have ws4 : (s : Int) + 1000 = (s1 : Int) := by have := HS1.out; have := HD.out; omega
          have ws3 : IntKind.i64.wrap ((s : Int) + 1000) = (s1 : Int) := (IntWalk.i64_in _ (by omega)).trans ws4
          go_wp2_with fail
          go_roundw
          case rel => exact ⟨j + 1, s1, by omega, by go_num, rfl, HE.out, hbig, B8.out⟩
          case measure => simp [intOf]; omega
        · have g1 : ¬ (1000 : Int) < (zs.length : Int) := by omega
          have ws4 : (s : Int) + (zs.length : Int) = (s1 : Int) := by have := HS1.out; have := HD.out; omega
          have ws3 : IntKind.i64.wrap ((s : Int) + (zs.length : Int)) = (s1 : Int) := (IntWalk.i64_in _ (by omega)).trans ws4
          go_wp2_with fail
          go_roundw
          case rel => exact ⟨j + 1, s1, by omega, by go_num, rfl, HE.out, hbig, B8.out⟩
          case measure => simp [intOf]; omega
      · have hb2 : decide ((1000 : Int) < (s1 : Int)) = true := by simp; omega
        have hF : fewOB xs = false := by
          unfold fewOB
          have := HE.out
          have := HLE.out
          rw [decide_eq_false (by omega)]
          rfl
        rcases Nat.lt_or_ge 1000 zs.length with h9 | h9
        · have g1 : (1000 : Int) < (zs.length : Int) := by omega
          have ws4 : (s : Int) + 1000 = (s1 : Int) := by have := HS1.out; have := HD.out; omega
          have ws3 : IntKind.i64.wrap ((s : Int) + 1000) = (s1 : Int) := (IntWalk.i64_in _ (by omega)).trans ws4
          go_wp2_with fail
          go_ret
          exact ⟨by first | rfl | (rw [hF]; rfl), B8.out⟩
        · have g1 : ¬ (1000 : Int) < (zs.length : Int) := by omega
          have ws4 : (s : Int) + (zs.length : Int) = (s1 : Int) := by have := HS1.out; have := HD.out; omega
          have ws3 : IntKind.i64.wrap ((s : Int) + (zs.length : Int)) = (s1 : Int) := (IntWalk.i64_in _ (by omega)).trans ws4
          go_wp2_with fail
          go_ret
          exact ⟨by first | rfl | (rw [hF]; rfl), B8.out⟩
    · have hje : j = xs.length := by omega
      subst hje
      have hdec : decide ((xs.length : Int) < (xs.length : Int)) = false := by simp
      have HB := Lib.hid hB
      have HS := Lib.hid hs
      clear hs hB
      go_wp2_with fail
      go_ret
      refine ⟨?_, HB.out⟩
      have hs := HS.out
      rw [List.take_length] at hs
      unfold fewOB
      rw [decide_eq_true (show lensO xs ≤ 1000 by omega)]
      simp
      omega
end Go.Proofs.Ytgbgmmakiimbbaa
