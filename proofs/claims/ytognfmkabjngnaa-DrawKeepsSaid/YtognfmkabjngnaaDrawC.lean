/- A stream in memory: its block, what it was given, how many draws it has used; and what its methods do. -/
import Derived.Test.YtognfmkabjngnaaMem
import Derived.Test.YtognfmkabjngnaaShelf
import Derived.IntWalk
import Derived.Test.YtognfmkabjngnaaGen
namespace Go.Proofs.Ytognfmkabjngnaa
open Go.RowKit
/-- the block of a stream, and the given draws, which lie below it -/
def StreamAt (b : Nat) (w : World) (zs : List Int) (k : Nat) : Prop :=
  b < w.heap.size ∧ k ≤ zs.length ∧ ∃ v, w.cell? ⟨b, 0, none⟩ = some v ∧ w.cell? ⟨b, 1, none⟩ = some (.int .i64 k) ∧ w.frozen? ⟨b, 1, none⟩ = false ∧ IntsAt .u64 b w v zs
theorem StreamAt.below {b B : Nat} {w w' : World} {zs : List Int} {k : Nat} (h : Below B w w') (hB : b < B) (s : StreamAt b w zs k) : StreamAt b w' zs k := by
  obtain ⟨hb, hk, v, c0, c1, fz, hI⟩ := s
  exact ⟨Nat.lt_of_lt_of_le hb h.size, hk, v, (h.cell (p := ⟨b, 0, none⟩) hB).trans c0, (h.cell (p := ⟨b, 1, none⟩) hB).trans c1, (h.frozen (p := ⟨b, 1, none⟩) hB).trans fz, hI.below (h.mono (Nat.le_of_lt hB))⟩
theorem StreamAt.later {b : Nat} {w w' : World} {zs : List Int} {k : Nat} (s : StreamAt b w zs k) (h : Below w.heap.size w w') : StreamAt b w' zs k := s.below h s.1
theorem StreamAt.fresh {w : World} {v : Value} {e : TypeId} {zs : List Int} {k : Nat} (h : IntsAt .u64 w.heap.size w v zs) (hk : k ≤ zs.length := by omega) : StreamAt w.heap.size (w.alloc (.cells #[v, .int .i64 k] e)) zs k :=
  ⟨by simp, hk, v, (cells_two w _ _ e).1, (cells_two w _ _ e).2, World.frozen?_alloc_new w _ e 1, h.below ((Below.refl _ _).alloc (Nat.le_refl _) _)⟩
theorem left_any (b : Nat) (zs : List Int) (k : Nat) (hm : zs.length ≤ 1048576) (w : World) (h : StreamAt b w zs k) :
    Calls Try.prog 12 #[.pointer (some ⟨b, 0, none⟩)] w fun e w' => e = .returned (.int .i64 (zs.length - k)) ∧ Below w.heap.size w w' := by
  obtain ⟨hb, hk, v, c0, c1, fz, hI⟩ := h
  have wk : IntKind.i64.wrap ((zs.length : Int) - k) = zs.length - k := IntWalk.i64_in _ (by omega)
  have w0 : IntKind.i64.wrap ((0 : Int) - k) = 0 - k := IntWalk.i64_in _ (by omega)
  rcases hI.form with ⟨rfl, rfl⟩ | ⟨g, off, cap, rfl, hcap, hg, hcs⟩
  · go_enter Try.func12, Try.ntmps12
    go_wp2_with fail
    go_region
    go_wp2
    go_ret
    exact ⟨by first | rfl | (simp; done), (Below.refl _ _).drew⟩
  · go_enter Try.func12, Try.ntmps12
    go_wp2_with fail
    go_region
    go_wp2
    go_ret
    exact ⟨by first | rfl | (simp; done), (Below.refl _ _).drew⟩
theorem used_any (b : Nat) (zs : List Int) (k : Nat) (w : World) (h : StreamAt b w zs k) :
    Calls Try.prog 13 #[.pointer (some ⟨b, 0, none⟩)] w fun e w' => e = .returned (.int .i64 k) ∧ Below w.heap.size w w' := by
  obtain ⟨hb, hk, v, c0, c1, fz, hI⟩ := h
  go_enter Try.func13, Try.ntmps13
  go_wp2
  go_ret
  exact ⟨by first | rfl | (simp; done), by first | exact Below.refl _ _ | exact (Below.refl _ _).drew⟩
theorem left_nil (w : World) :
    Calls Try.prog 12 #[.pointer none] w fun e w' => e = .returned (.int .i64 0) ∧ Below w.heap.size w w' := by
  go_enter Try.func12, Try.ntmps12
  go_wp2
  go_ret
  exact ⟨rfl, Below.refl _ _⟩
theorem used_nil (w : World) :
    Calls Try.prog 13 #[.pointer none] w fun e w' => e = .returned (.int .i64 0) ∧ Below w.heap.size w w' := by
  go_enter Try.func13, Try.ntmps13
  go_wp2
  go_ret
  exact ⟨rfl, Below.refl _ _⟩
theorem clone_nil (w : World) :
    Calls Try.prog 14 #[.pointer none] w fun e w' => e = .returned (.pointer none) ∧ Below w.heap.size w w' := by
  go_enter Try.func14, Try.ntmps14
  go_wp2
  go_ret
  exact ⟨rfl, Below.refl _ _⟩
/-- a copy of a slice of draws -/
theorem clone_u64 (a : Option Addr) (len cap : Nat) (zs : List Int) (hm : zs.length * 8 ≤ 140737488351232) (w : World) (hL : IntsAt .u64 w.heap.size w (.slice a len cap) zs) :
    Calls Try.prog 15 #[.slice a len cap] w (ClonedTo 33 1 zs.length (zs.map (Value.int .u64)) w) := by
  rcases hL.form with ⟨e0, rfl⟩ | ⟨b, off, cap', e0, hcap, hb, hcs⟩ <;> cases e0
  · refine (Try.slices_Clone_nil 0 0 w).mono ?_
    rintro e w' ⟨rfl, rfl⟩
    exact ⟨_, rfl, World.ownsRow_nil _ _ _ _, Below.refl _ _⟩
  · obtain ⟨i0, hi, hz0, hz1, hz2⟩ := info_parts (show (Try.prog.info? 33).map (fun i => (i.zero, i.size, i.bytes)) = some (some (.int .u64 0), 1, 8) by kernel_rfl)
    refine (Try.slices_Clone i0 (.int .u64 0) 1 8 hi hz0 hz1 hz2 rfl (by decide) (by first | exact Try.sizeOf33 | intro w; kernel_rfl) b off zs.length cap (zs.map (Value.int .u64)) w (by simp) (by unfold maxLen; omega) (by omega) ?_ ?_).mono ?_
    · intro j u hj
      rw [List.getElem?_map] at hj
      have hlt : j < zs.length := by
        apply Nat.lt_of_not_le; intro hge
        rw [List.getElem?_eq_none hge] at hj; cases hj
      rw [List.getElem?_eq_getElem hlt] at hj
      rw [hcs j hlt, List.getElem?_eq_getElem hlt]
      simpa using hj
    · intro u hu
      simp only [List.mem_map] at hu
      obtain ⟨z, _, rfl⟩ := hu
      rfl
    · rintro e w' ⟨v, rfl, ho, _, hb'⟩
      exact ⟨v, rfl, ho, hb'⟩
/-- a new stream, in a block of the call's own -/
def NewStream (zs : List Int) (k : Nat) (w : World) (e : Ending) (w' : World) : Prop := ∃ b, e = .returned (.pointer (some ⟨b, 0, none⟩)) ∧ w.heap.size ≤ b ∧ StreamAt b w' zs k ∧ Below w.heap.size w w'
theorem new_any (v : Value) (zs : List Int) (hm : zs.length * 8 ≤ 140737488351232) (w : World) (hL : IntsAt .u64 w.heap.size w v zs) :
    Calls Try.prog 5 #[v] w (NewStream zs 0 w) := by
  obtain ⟨a, len, cap, rfl⟩ : ∃ a len cap, v = .slice a len cap := by
    rcases hL.form with ⟨e, _⟩ | ⟨b, off, cap, e, _⟩ <;> exact ⟨_, _, _, e⟩
  go_enter Try.func5, Try.ntmps5
  go_wp2_with fail
  refine (clone_u64 _ _ _ zs hm _ hL).mono ?_
  rintro e w1 ⟨u, rfl, ho, h1⟩
  have hU := Lib.hid (IntsAt.of_owns rfl ho)
  clear ho
  obtain ⟨a', len', cap', rfl⟩ : ∃ a len cap, u = .slice a len cap := by
    rcases hU.out.form with ⟨e, _⟩ | ⟨b, off, cap, e, _⟩ <;> exact ⟨_, _, _, e⟩
  go_wp2
  go_ret
  exact ⟨_, rfl, h1.size, .fresh hU.out (Nat.zero_le _), h1.alloc h1.size _⟩
theorem clone_any (b : Nat) (zs : List Int) (k : Nat) (w : World) (h : StreamAt b w zs k) :
    Calls Try.prog 14 #[.pointer (some ⟨b, 0, none⟩)] w (NewStream zs k w) := by
  obtain ⟨hb, hk, v, c0, c1, fz, hI⟩ := h
  have hU := Lib.hid (hI.grow (Nat.le_of_lt hb))
  obtain ⟨a', len', cap', rfl⟩ : ∃ a len cap, v = .slice a len cap := by
    rcases hU.out.form with ⟨e, _⟩ | ⟨b, off, cap, e, _⟩ <;> exact ⟨_, _, _, e⟩
  go_enter Try.func14, Try.ntmps14
  go_wp2_with fail
  go_region
  go_wp2
  go_ret
  exact ⟨_, rfl, Nat.le_refl _, .fresh hU.out hk, ((Below.refl _ _).alloc (Nat.le_refl _) _).drew⟩
/-- one more draw is used -/
theorem StreamAt.step {b : Nat} {w : World} {zs : List Int} {k : Nat} (s : StreamAt b w zs k) (hk : k < zs.length) : StreamAt b (w.setCell ⟨b, 1, none⟩ (.int .i64 ((k : Int) + 1))).drew zs (k + 1) := by
  obtain ⟨hb, _, v, c0, c1, fz, hI⟩ := s
  refine StreamAt.later ?_ (Below.refl _ _).drew
  refine ⟨by simpa [World.setCell] using hb, hk, v, ?_, ?_, ?_, hI.below (below_set (Below.refl _ _) (Nat.le_refl _))⟩
  · rw [World.cell?_setCell_other _ _ _ _ (by simp)]; exact c0
  · exact World.cell?_setCell_same _ _ _ c1
  · rw [World.frozen?_setCell]; exact fz
/-- the next draw below a bound, as a function of the place -/
def nextR (zs : List Int) (k : Nat) (n : Int) : Int × Bool × Nat :=
  if n < 1 ∨ zs.length ≤ k then (0, false, k) else ((zs[k]?.getD 0) % n, true, k + 1)
def Nexted (b : Nat) (zs : List Int) (k : Nat) (n : Int) (w : World) (e : Ending) (w' : World) : Prop :=
  e = .returned (.tuple #[.int .i64 (nextR zs k n).1, .bool (nextR zs k n).2.1]) ∧ StreamAt b w' zs (nextR zs k n).2.2 ∧ w.grownBy w' (some b)
theorem next_any (b : Nat) (zs : List Int) (hz : ∀ z ∈ zs, 0 ≤ z ∧ z < 18446744073709551616) (k : Nat) (hm : zs.length ≤ 1048576) (n : Int) (hn : -9223372036854775808 ≤ n ∧ n ≤ 9223372036854775807) (w : World) (h : StreamAt b w zs k) :
    Calls Try.prog 7 #[.pointer (some ⟨b, 0, none⟩), .int .i64 n] w (Nexted b zs k n w) := by
  have hk := h.2.1
  by_cases h1 : n < 1
  · have e1 : decide (n < 1) = true := by simpa using h1
    have hR : nextR zs k n = (0, false, k) := by unfold nextR; rw [if_pos (Or.inl h1)]
    go_enter Try.func7, Try.ntmps7
    go_wp2_with fail
    go_ret2
    unfold Nexted
    rw [hR]
    exact ⟨rfl, by first | exact h | exact h.later (Below.refl _ _).drew, by first | exact World.grownBy.refl _ _ | exact grown_below (Below.refl _ _).drew _⟩
  · have e1 : decide (n < 1) = false := by simpa using h1
    go_enter Try.func7, Try.ntmps7
    go_wp2_with fail
    refine (left_any b zs k hm _ h).mono ?_
    rintro e w1 ⟨rfl, b1⟩
    have s1 := h.later b1
    by_cases h2 : zs.length ≤ k
    · have e2 : ((zs.length : Int) - k == 0) = true := by simp; omega
      have e3 : (zs.length : Int) - k = 0 := by omega
      have hR : nextR zs k n = (0, false, k) := by unfold nextR; rw [if_pos (Or.inr h2)]
      go_wp2_with fail
      go_ret2
      unfold Nexted
      rw [hR]
      exact ⟨rfl, by first | exact s1 | exact s1.later (Below.refl _ _).drew, grown_below b1 _⟩
    · have e2 : ((zs.length : Int) - k == 0) = false := by simp; omega
      have hR : nextR zs k n = ((zs[k]?.getD 0) % n, true, k + 1) := by unfold nextR; rw [if_neg (by omega)]
      obtain ⟨hb, hk, v, c0, c1, fz, hI⟩ := s1
      rcases hI.form with ⟨_, e0⟩ | ⟨g, off, cap, rfl, hcap, hg, hcs⟩
      · rw [e0] at h2; simp at h2
      have k0 : k < zs.length := by omega
      have cz := hcs k k0
      have z0 := hz (zs[k]?.getD 0) (by rw [List.getElem?_eq_getElem k0]; exact List.getElem_mem k0)
      have HR := Lib.hid hR
      have HI := Lib.hid hI
      have HH := Lib.hid h
      clear hR hI h hcs
      generalize zs[k]?.getD 0 = z at *
      have i0 : (0 : Int) ≤ (k : Int) := by omega
      have i1 : (k : Int) < (zs.length : Int) := by omega
      have wn : IntKind.u64.wrap n = n := by first | exact IntWalk.u64_in _ (by omega) | exact IntKind.wrap_of_in _ _ (by omega)
      have wk : IntKind.i64.wrap ((k : Int) + 1) = k + 1 := IntWalk.i64_in _ (by omega)
      go_wp2_with fail
      go_region
      go_wp2_with fail
      go_ret2
      unfold Nexted
      rw [HR.out]
      have q0 := Int.emod_nonneg z (show n ≠ 0 by omega)
      have q1 := Int.emod_lt_of_pos z (show 0 < n by omega)
      have wz : wrap64 (z % n) = z % n := by first | exact IntWalk.i64_in _ (by omega) | (rw [← IntKind.wrap_i64]; exact IntWalk.i64_in _ (by omega)) | (unfold wrap64; omega)
      refine ⟨?_, ?_, ?_⟩
      · show Ending.returned (.tuple #[.int .i64 (wrap64 (z % n)), .bool true]) = _
        rw [wz]
      · exact StreamAt.step ⟨hb, hk, _, c0, c1, fz, HI.out⟩ k0
      · exact grown_trans (grown_trans (grown_below b1 _) (grown_set _ _ _ _)) (grown_below (Below.refl _ _).drew _)
end Go.Proofs.Ytognfmkabjngnaa
