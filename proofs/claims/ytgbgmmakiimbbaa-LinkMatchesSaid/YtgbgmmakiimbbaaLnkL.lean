/- Layer 18: the reference's messages. -/
import Derived.Test.YtgbgmmakiimbbaaLnkK
namespace Go.Proofs.Ytgbgmmakiimbbaa
open Go.RowKit
set_option linter.unusedVariables false
set_option maxHeartbeats 1000000 in
theorem refMessages_any (cap : Int) (sv : Value) (ms : List Ms) (rcv pk : Nat) (hn : ms.length ≤ 1099511627776) (hr : rcv ≤ ms.length) (w : World) (h : MsgsR w sv ms) :
    Calls Try.prog 13 #[encL cap sv rcv pk] w fun e w' => ∃ u, e = .returned u ∧ MsgsR w' u (ms.drop rcv) ∧ Below w.heap.size w w' := by
  have bA := (Below.refl w.heap.size w).alloc (Nat.le_refl _) (.cells #[.int .i64 cap, sv, .int .i64 rcv, .int .i64 pk] 29)
  have hA := Lib.hid (h.later bA)
  unfold encL
  have F := (Four.new w 29 (.int .i64 cap) sv (.int .i64 rcv) (.int .i64 pk)).cells
  have i0 : (0 : Int) ≤ (rcv : Int) := by omega
  have i1 : (rcv : Int) ≤ (ms.length : Int) := by omega
  rcases h with ⟨rfl, rfl⟩ | ⟨g, off, cp, rfl, hcp, hc⟩
  · have hr0 : rcv = 0 := by simpa using hr
    subst hr0
    obtain ⟨c0, c1, c2, c3⟩ := F
    go_enter Try.func13, Try.ntmps13
    go_wp2_with fail
    go_ret
    exact ⟨_, rfl, .inl ⟨rfl, rfl⟩, bA⟩
  · obtain ⟨c0, c1, c2, c3⟩ := F
    have hcA := Lib.hid (show ∀ i m, (ms.drop rcv)[i]? = some m → _ from fun i m hm => by
      rw [List.getElem?_drop] at hm
      obtain ⟨u, ⟨d0, d1, d2, d3, d4, d5⟩, hu⟩ := hc (rcv + i) m hm
      exact (⟨u, ⟨cell_step bA d0, cell_step bA d1, cell_step bA d2, cell_step bA d3, cell_step bA d4, cell_step bA d5⟩, (hu.below bA).grow bA.size⟩ : ∃ u, (World.cell? (w.alloc (.cells #[.int .i64 cap, .slice (some ⟨g, off, none⟩) ms.length cp, .int .i64 rcv, .int .i64 pk] 29)) ⟨g, off + (rcv + i) * 6, none⟩ = some (.int .i64 m.t.a) ∧ World.cell? _ ⟨g, off + (rcv + i) * 6 + 1, none⟩ = some (.int .i64 m.t.b) ∧ World.cell? _ ⟨g, off + (rcv + i) * 6 + 2, none⟩ = some (.int .i64 m.t.c) ∧ World.cell? _ ⟨g, off + (rcv + i) * 6 + 3, none⟩ = some (.int .i64 m.t.d) ∧ World.cell? _ ⟨g, off + (rcv + i) * 6 + 4, none⟩ = some (.int .i64 m.t.e) ∧ World.cell? _ ⟨g, off + (rcv + i) * 6 + 5, none⟩ = some u) ∧ IntsW .i64 (World.heap _).size _ u m.zs))
    have hbA := Lib.hid bA
    clear hc bA
    by_cases he : cp = rcv
    · subst he
      go_enter Try.func13, Try.ntmps13
      go_wp2_with fail
      go_ret
      refine ⟨_, rfl, .inr ⟨g, off, 0, by rw [List.length_drop, show ms.length - cp = 0 by omega]; rfl, by rw [List.length_drop]; omega, fun i m hm => ?_⟩, hbA.out⟩
      rw [List.getElem?_eq_none (by rw [List.length_drop]; omega)] at hm
      cases hm
    · go_enter Try.func13, Try.ntmps13
      go_wp2_with fail
      go_ret
      refine ⟨_, rfl, .inr ⟨g, off + rcv * 6, cp - rcv, by rw [List.length_drop]; rfl, by rw [List.length_drop]; omega, fun i m hm => ?_⟩, hbA.out⟩
      obtain ⟨u, hd, hu⟩ := hcA.out i m hm
      rw [show off + (rcv + i) * 6 = off + rcv * 6 + i * 6 by omega] at hd
      exact ⟨u, hd, hu⟩
end Go.Proofs.Ytgbgmmakiimbbaa
