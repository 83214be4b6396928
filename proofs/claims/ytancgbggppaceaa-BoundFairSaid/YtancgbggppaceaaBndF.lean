/- Layer 23: Fair. -/
import Derived.Test.YtancgbggppaceaaProg
import Derived.Test.YtancgbggppaceaaShelf
import Derived.ProofKit
import Derived.Test.YtancgbggppaceaaBndM
import Derived.Test.YtancgbggppaceaaMapI
namespace Go.Proofs.Ytancgbggppaceaa
open Go.RowKit Go.Maps
set_option linter.unusedVariables false
def someB (n : Int) : Bool := decide (1 ≤ n) && decide (n ≤ 64)
theorem some_any (n : Int) (w : World) : Calls Try.prog 11 #[.int .i64 n] w fun e w' => e = .returned (.bool (someB n)) ∧ w = w' := by
  by_cases h1 : 1 ≤ n
  · have g1 : decide (1 ≤ n) = true := by simpa using h1
    have H := Lib.hid (show someB n = decide (n ≤ 64) by unfold someB; rw [g1]; rfl)
    go_enter Try.func11, Try.ntmps11
    go_wp2
    go_ret
    exact ⟨by rw [H.out]; rfl, rfl⟩
  · have g1 : decide (1 ≤ n) = false := by simpa using h1
    have H := Lib.hid (show someB n = false by unfold someB; rw [g1]; rfl)
    go_enter Try.func11, Try.ntmps11
    go_wp2
    go_ret
    exact ⟨by rw [H.out]; rfl, rfl⟩
theorem litsI_upd (g : Int → Option Int) (z i x : Int) : litsI (upd g z i) x = if x = z then some (.int .i64 i) else litsI g x := by
  unfold litsI upd
  split <;> rfl
set_option maxHeartbeats 1000000 in
theorem fits_any (i z N : Int) (Bl Bw b n : Nat) (g : Int → Option Int) (hn : n < maxLen) (hi0 : 0 ≤ i) (hi1 : i ≤ 1048576) (hg : ∀ x p, g x = some p → 0 ≤ p ∧ p ≤ i) (hN0 : 1 ≤ N) (hN1 : N ≤ 64) (hz : WF z) (w : World)
    (cl : w.cell? ⟨Bl, 0, none⟩ = some (.map (some b))) (cw : w.cell? ⟨Bw, 0, none⟩ = some (.int .i64 N)) (hne : Bw ≠ b) (hm : MapIs Try.prog w 3 3 b n (litsI g)) :
    Calls Try.prog 12 #[.int .i64 i, .int .i64 z, .pointer (some ⟨Bl, 0, none⟩), .pointer (some ⟨Bw, 0, none⟩)] w fun e w' => e = .returned (.bool (fitB g N i z)) ∧ MapIs Try.prog w' 3 3 b (n + 1) (litsI (upd g z i)) ∧ w.grownBy w' (some b) := by
  have hlk := hm.look_ok (t := 30) Try.underlying3 Try.underlying30 Try.underlying3 (Try.zeroValue3 w) hz
  obtain ⟨w', hup, hm', hgr⟩ := hm.put (t := 30) (f' := litsI (upd g z i)) Try.underlying3 Try.underlying30 hn hz (val := .int .i64 i) (plainElem_int Try.underlying3 (wf_of (by omega))) (litsI_upd g z i)
  have cw' : w'.cell? ⟨Bw, 0, none⟩ = some (.int .i64 N) := (grown_cell hgr (World.block_lt_of_cell? _ _ cw) hne).trans cw
  have HM := Lib.hid hm'
  have HG := Lib.hid hgr
  clear hm hm' hgr
  by_cases h1 : 0 ≤ z
  · have g1 : decide (0 ≤ z) = true := by simpa using h1
    by_cases h2 : z < N
    · have g2 : decide (z < N) = true := by simpa using h2
      cases hgz : g z with
      | none =>
        rw [hgz] at hlk
        simp only [Option.getD_none, Option.isSome_none] at hlk
        have H := Lib.hid (show fitB g N i z = true by unfold fitB; rw [g1, g2, hgz]; rfl)
        clear hgz hg
        go_enter Try.func12, Try.ntmps12
        go_wp2_with fail
        go_ret
        exact ⟨by rw [H.out]; rfl, HM.out, HG.out⟩
      | some p =>
        rw [hgz] at hlk
        simp only [Option.getD_some, Option.isSome_some] at hlk
        obtain ⟨p0, p1⟩ := hg z p hgz
        have H := Lib.hid (show fitB g N i z = decide (N ≤ i - p) by unfold fitB; rw [g1, g2, hgz]; rfl)
        clear hgz hg
        go_enter Try.func12, Try.ntmps12
        go_wp2_with fail
        go_ret
        exact ⟨by rw [H.out]; rfl, HM.out, HG.out⟩
    · have g2 : decide (z < N) = false := by simpa using h2
      have H := Lib.hid (show fitB g N i z = false by unfold fitB; rw [g1, g2]; rfl)
      clear hg
      generalize (g z).getD 0 = p at hlk
      generalize (g z).isSome = q at hlk
      go_enter Try.func12, Try.ntmps12
      go_wp2_with fail
      go_ret
      exact ⟨by rw [H.out]; rfl, HM.out, HG.out⟩
  · have g1 : decide (0 ≤ z) = false := by simpa using h1
    have H := Lib.hid (show fitB g N i z = false by unfold fitB; rw [g1]; rfl)
    clear hg
    generalize (g z).getD 0 = p at hlk
    generalize (g z).isSome = q at hlk
    go_enter Try.func12, Try.ntmps12
    go_wp2_with fail
    go_ret
    exact ⟨by rw [H.out]; rfl, HM.out, HG.out⟩
end Go.Proofs.Ytancgbggppaceaa
