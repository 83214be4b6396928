/- Layer 18: a link and the reference's state side by side; the chapter's example. -/
import Derived.Test.YtgbgmmakiimbbaaLnkQ
import Derived.Test.YtgbgmmakiimbbaaLnkH
namespace Go.Proofs.Ytgbgmmakiimbbaa
open Go.RowKit
set_option linter.unusedVariables false
theorem Four.not_row {w : World} {b : Nat} {t : TypeId} {x0 x1 x2 x3 : Value} (h : Four w b t x0 x1 x2 x3) {base size n : Nat} {e : TypeId} {v : Value} {xs : List Value} (hr : w.ownsRow base e size v n xs) (hne : t ≠ e) : v.ownBlock = none ∨ v.ownBlock ≠ some b := by
  rcases hr.2 with ⟨rfl, _⟩ | ⟨g, c, cur, rfl, _, hg, _⟩
  · exact .inl rfl
  · refine .inr fun e' => ?_
    obtain rfl : g = b := Option.some.inj e'
    have e1 : w.heap[g]? = some (.cells #[x0, x1, x2, x3] t (0, 0)) := h
    rw [hg] at e1
    simp at e1
    exact hne e1.2.symm
theorem MsgAt.four {W W' : World} {base B p : Nat} {cs : List Value} {m : Ms} {x0 x1 x2 x3 : Value} (h : MsgAt W base cs p m) (hs : Four W B 29 x0 x1 x2 x3) (hg : W.grownBy W' (some B)) : MsgAt W' base cs p m := by
  obtain ⟨v, hc, ho⟩ := h
  exact ⟨v, hc, ho.kept hg (hs.not_row ho (by decide))⟩
theorem LinkAt.four {b B cap rcv hi C : Nat} {q : List Ms} {w w' : World} {x0 x1 x2 x3 : Value} (h : LinkAt b B cap q rcv hi w) (hs : Four w C 29 x0 x1 x2 x3) (hg : w.grownBy w' (some C)) (hne : b ≠ C) : LinkAt b B cap q rcv hi w' := by
  obtain ⟨hbB, hBw, first, R, rv, cs, h1, h2, h3, h4⟩ := h
  exact ⟨hbB, Nat.le_trans hBw hg.size, first, R, rv, cs, Six.kept h1 hg (fun e => hne (Option.some.inj e)), h2.kept hg (hs.not_row h2 (by decide)), h3, fun i m hm => (h4 i m hm).four hs hg⟩
theorem LinkAt.six {b B cap rcv hi C : Nat} {q : List Ms} {w w' : World} {x0 x1 x2 x3 x4 x5 : Value} (h : LinkAt b B cap q rcv hi w) (hs : Six w C 34 x0 x1 x2 x3 x4 x5) (hr : ringB b w ≠ some C) (hg : w.grownBy w' (some C)) (hne : b ≠ C) : LinkAt b B cap q rcv hi w' := by
  obtain ⟨hbB, hBw, first, R, rv, cs, h1, h2, h3, h4⟩ := h
  rw [ringB_of h1] at hr
  exact ⟨hbB, Nat.le_trans hBw hg.size, first, R, rv, cs, Six.kept h1 hg (fun e => hne (Option.some.inj e)), h2.kept hg (.inr hr), h3, fun i m hm => (h4 i m hm).other hs hg⟩
theorem LinkAt.ring {b B cap rcv hi : Nat} {q : List Ms} {w : World} (h : LinkAt b B cap q rcv hi w) {k : Nat} (hk : ringB b w = some k) : b < k ∧ k < w.heap.size := by
  obtain ⟨hbB, hBw, first, R, rv, cs, h1, h2, _⟩ := h
  rw [ringB_of h1] at hk
  have := h2.lt k hk
  omega
theorem ringB_later {b B cap rcv hi : Nat} {q : List Ms} {w w' : World} (h : LinkAt b B cap q rcv hi w) (hb : Below w.heap.size w w') : ringB b w' = ringB b w := by
  obtain ⟨hbB, hBw, first, R, rv, cs, h1, _⟩ := h
  rw [ringB_of h1, ringB_of (Six.later h1 hb)]
theorem ringB_kept {b B C cap rcv hi : Nat} {q : List Ms} {w w' : World} (h : LinkAt b B cap q rcv hi w) (hg : w.grownBy w' (some C)) (hne : b ≠ C) : ringB b w' = ringB b w := by
  obtain ⟨hbB, hBw, first, R, rv, cs, h1, _⟩ := h
  rw [ringB_of h1, ringB_of (Six.kept h1 hg (fun e => hne (Option.some.inj e)))]
/-- a link, and the reference's state in a block -/
structure Both (n₀ b bw cap : Nat) (q : List Ms) (rcv hi : Nat) (sv : Value) (ms : List Ms) (rr pk : Nat) (w : World) : Prop where
  link : LinkAt b (b + 1) cap q rcv hi w
  four : Four w bw 29 (.int .i64 cap) sv (.int .i64 rr) (.int .i64 pk)
  sent : SentAt n₀ (b + 1) w sv ms
  ring : ∀ k, ringB b w = some k → k ≠ bw ∧ sv.ownBlock ≠ some k
  low : n₀ ≤ b
  ord : b < bw
section
variable {n₀ b bw cap : Nat} {q : List Ms} {rcv hi : Nat} {sv : Value} {ms : List Ms} {rr pk : Nat} {w w' : World}
theorem Both.later (h : Both n₀ b bw cap q rcv hi sv ms rr pk w) (hb : Below w.heap.size w w') : Both n₀ b bw cap q rcv hi sv ms rr pk w' :=
  ⟨h.link.later hb, h.four.later hb, h.sent.later hb (Nat.le_trans h.low (Nat.le_of_lt h.link.lt)), fun k hk => h.ring k (by rw [← ringB_later h.link hb]; exact hk), h.low, h.ord⟩
/-- the reference's state is replaced -/
theorem Both.refs (h : Both n₀ b bw cap q rcv hi sv ms rr pk w) {B : Nat} {sv' : Value} {ms' : List Ms} {rr' pk' : Nat} (hs : SentAt n₀ B w sv' ms') (hB : b < B) (hr : ∀ k, ringB b w = some k → sv'.ownBlock ≠ some k) :
    Both n₀ b bw cap q rcv hi sv' ms' rr' pk' ((((w.setCell ⟨bw, 0, none⟩ (.int .i64 cap)).setCell ⟨bw, 1, none⟩ sv').setCell ⟨bw, 2, none⟩ (.int .i64 rr')).setCell ⟨bw, 3, none⟩ (.int .i64 pk')) := by
  have G := grown_four w bw (.int .i64 cap) sv' (.int .i64 rr') (.int .i64 pk')
  have hne : b ≠ bw := by have := h.ord; omega
  refine ⟨h.link.four h.four G hne, h.four.store _ _ _ _, ?_, fun k hk => ?_, h.low, h.ord⟩
  · obtain ⟨cs, ho, hc⟩ := hs
    refine ⟨cs, own_base (ho.kept G (h.four.not_row ho (by decide))) (by omega), fun i m hm => ?_⟩
    obtain ⟨u, hd, hu⟩ := hc i m hm
    exact ⟨u, hd, hu.below ((Grown.below G h.four.lt).mono (by have := h.low; have := h.ord; omega))⟩
  · rw [ringB_kept h.link G hne] at hk
    exact ⟨(h.ring k hk).1, hr k hk⟩
/-- the link is changed -/
theorem Both.touch (h : Both n₀ b bw cap q rcv hi sv ms rr pk w) {q' : List Ms} {rcv' hi' : Nat} (hl : LinkAt b (b + 1) cap q' rcv' hi' w') (ht : Touch b (ringB b w) w w') (hr : ringB b w' = ringB b w ∨ ∃ k, ringB b w' = some k ∧ w.heap.size ≤ k) :
    Both n₀ b bw cap q' rcv' hi' sv ms rr pk w' := by
  refine ⟨hl, (ht.2 bw h.four.lt (by have := h.ord; omega) (fun e => (h.ring bw e.symm).1 rfl)).trans h.four, h.sent.touch ht h.low (Nat.lt_succ_self b) ?_, fun k hk => ?_, h.low, h.ord⟩
  · cases hr' : ringB b w with
    | none => exact Classical.em _
    | some k => exact .inr (h.ring k hr').2
  · rcases hr with hr | ⟨k', hk', hle⟩
    · rw [hr] at hk
      exact h.ring k hk
    · rw [hk'] at hk
      cases hk
      refine ⟨by have := h.four.lt; omega, fun e => ?_⟩
      obtain ⟨cs, ho, _⟩ := h.sent
      have := (ho.lt _ e).2
      omega
/-- a box with a message is written -/
theorem Both.six (h : Both n₀ b bw cap q rcv hi sv ms rr pk w) {B : Nat} {x0 x1 x2 x3 x4 x5 : Value} (hs : Six w B 34 x0 x1 x2 x3 x4 x5) (hB : bw < B) (hr : ∀ k, ringB b w = some k → k ≠ B) (hv : sv.ownBlock ≠ some B) (hg : w.grownBy w' (some B)) :
    Both n₀ b bw cap q rcv hi sv ms rr pk w' := by
  have hne : b ≠ B := by have := h.ord; omega
  refine ⟨h.link.six hs (fun e => hr B e rfl) hg hne, h.four.kept hg (fun e => by have := Option.some.inj e; omega), ?_, fun k hk => ?_, h.low, h.ord⟩
  · obtain ⟨cs, ho, hc⟩ := h.sent
    refine ⟨cs, ho.kept hg (.inr hv), fun i m hm => ?_⟩
    obtain ⟨u, hd, hu⟩ := hc i m hm
    exact ⟨u, hd, hu.below ((Grown.below hg hs.lt).mono (by have := h.low; have := h.ord; omega))⟩
  · rw [ringB_kept h.link hg hne] at hk
    exact h.ring k hk
end
theorem messages_nil (w : World) : Calls Try.prog 24 #[.pointer none] w fun e w' => e = .returned (.slice none 0 0) ∧ Below w.heap.size w w' := by
  go_enter Try.func24, Try.ntmps24
  go_wp2_with fail
  refine (len_nil w).mono ?_
  rintro e w1 ⟨rfl, rfl⟩
  go_wp2_with fail
  go_loopw [3, 4, 7] (fun all _ i wr => all = .slice none 0 0 ∧ i = .int .i64 0 ∧ wr = w1) (fun _ _ i _ => 0)
  case atStart => exact ⟨rfl, rfl, rfl⟩
  case round =>
    obtain ⟨rfl, rfl, rfl⟩ := hrel
    go_wp2_with fail
    go_ret
    exact ⟨rfl, Below.refl _ _⟩
def zeroM : Ms := ⟨zeroT, []⟩
theorem alive18_any (w : World) : Calls Try.prog 10 #[] w fun e w' => e = .returned (.bool true) ∧ Below w.heap.size w w' := by
  go_enter Try.func10, Try.ntmps10
  go_wp2_with fail
  refine (new_any 1 w (by decide) (by decide)).mono ?_
  rintro e w1 ⟨rfl, hL, b1⟩
  have L1 : LinkAt w.heap.size (w.heap.size + 1) 1 [] 0 0 w1 := LinkAt.new (Nat.lt_succ_self _) (Six.lt hL) hL
  have k1 : LinkOk 1 [] 0 0 := ⟨by decide, by decide, by decide, fun m hm => by cases hm⟩
  have k2 : LinkOk 1 [zeroM] 0 1 := ⟨by decide, by decide, by decide, fun m hm => by simp at hm; subst hm; decide⟩
  clear hL
  go_wp2_with fail
  refine (send_ok w.heap.size 1 0 0 [] zeroT (.slice none 0 0) [] (by decide) w1 (fun _ _ => .inr IntsAt.nil) L1 k1 (by decide)).mono ?_
  rintro e w2 ⟨rfl, L2, t2, _⟩
  have L2' : LinkAt w.heap.size (w.heap.size + 1) 1 [zeroM] 0 1 w2 := L2
  have B2 := Lib.hid (b1.trans t2.1)
  clear L1 L2 t2 b1
  go_wp2_with fail
  refine (send_full w.heap.size 1 0 1 [zeroM] zeroT (.slice none 0 0) w2 L2' k2 rfl).mono ?_
  rintro e w3 ⟨rfl, b3⟩
  have L3 := L2'.later b3
  have B3 := Lib.hid (B2.out.trans (b3.mono B2.out.size))
  clear L2' B2 b3
  go_wp2_with fail
  refine (linkLenB w.heap.size 1 0 1 [zeroM] w3 L3 k2).mono ?_
  rintro e w4 ⟨rfl, b4⟩
  have B4 := Lib.hid (B3.out.trans (b4.mono B3.out.size))
  clear L3 B3 b4
  go_wp2_with fail
  go_ret
  exact ⟨rfl, B4.out⟩
end Go.Proofs.Ytgbgmmakiimbbaa
