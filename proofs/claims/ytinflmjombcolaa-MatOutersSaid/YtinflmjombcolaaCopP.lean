/- Copies into a part of a row (the texts of XSgdA without the states). -/
import Derived.Test.YtinflmjombcolaaGen
import Derived.Laws.CopyOwn
namespace Go.Proofs.Ytinflmjombcolaa
open Go.RowKit
set_option linter.unusedVariables false
theorem grown_setRow {w : World} {g : Nat} {cs cur : Array Value} {t : TypeId} (hg : w.heap[g]? = some (.cells cur t (0, 0))) : w.grownBy (w.setRow g cs) (some g) :=
  ⟨rfl, rfl, rfl, by simp [World.setRow], fun k hk hne => setRow_other w g k cs (fun e => hne (by rw [e]))⟩
theorem row_spliced {w : World} {base n off : Nat} {e : TypeId} {g cap : Nat} {xs cs : List Value} (h : w.ownsRow base e 1 (.slice (some ⟨g, 0, none⟩) n cap) n xs) (hfit : off + cs.length ≤ n) :
    ∃ cur : Array Value, w.heap[g]? = some (.cells cur e (0, 0)) ∧ off + cs.length ≤ cur.size ∧ (w.setRow g (cur.toList.take off ++ (cs ++ cur.toList.drop (off + cs.length))).toArray).ownsRow base e 1 (.slice (some ⟨g, 0, none⟩) n cap) n (splice xs off cs) := by
  obtain ⟨hlen, hx⟩ := h
  rcases hx with ⟨e0, _⟩ | ⟨g', cap', cur, e0, hb, hg, hn, hcap, hsz, htk⟩
  · cases e0
  · cases e0
    simp only [Nat.mul_one] at hlen hsz htk
    refine ⟨cur, hg, by omega, ?_, .inr ⟨g, cap, _, rfl, hb, setRow_heap w g cur _ e _ hg, hn, hcap, ?_, ?_⟩⟩
    · rw [Nat.mul_one, length_splice _ _ _ (by omega), hlen]
    · simp; omega
    · have hl : cur.toList.length = cap := by simpa using hsz
      rw [Nat.mul_one]
      show (cur.toList.take off ++ (cs ++ cur.toList.drop (off + cs.length))).take n = splice xs off cs
      rw [← htk]
      unfold splice
      apply List.ext_getElem?
      intro j
      simp only [List.getElem?_take, List.getElem?_append, List.getElem?_drop, List.length_take]
      grind
theorem run_copy_part {P : Program} (w : World) (dT sT ty elem : TypeId) (hu : P.underlying dT = some (.slice elem)) (hsz : (P.info? elem).map (·.size) = some 1)
    (dp sp : Option Addr) (L dCap sCap : Nat) {base n off : Nat} {v : Value} {xs : List Value} (hown : w.ownsRow base elem 1 v n xs) (cs : List Value) (hn : cs.length = L)
    (hpos : 0 < L → ∃ g cap, v = .slice (some ⟨g, 0, none⟩) n cap ∧ dp = some ⟨g, off, none⟩ ∧ ∃ ad, sp = some ad ∧ ∀ j v, cs[j]? = some v → w.cell? (ad.add j) = some v)
    (hfit : off + L ≤ n) (h1 : ∀ v ∈ cs, v.oneCell' = true) :
    ∃ w', (Builtin.copy_ #[dT, sT] ty #[.slice dp L dCap, .slice sp L sCap]).run P w = .ok (goInt L) w' ∧ w'.ownsRow base elem 1 v n (splice xs off cs) ∧ w.grownBy w' v.ownBlock := by
  by_cases h0 : L = 0
  · obtain rfl : cs = [] := List.eq_nil_of_length_eq_zero (by omega)
    subst h0
    exact ⟨w, run_copy_none w dT sT ty elem dp sp 0 dCap 0 sCap hu hsz (by simp), by simpa [splice] using hown, grown_below (Below.refl _ _) _⟩
  · obtain ⟨g, cap, rfl, rfl, ad, rfl, hsrc⟩ := hpos (by omega)
    obtain ⟨cur, hg, hf, hr⟩ := row_spliced (off := off) (cs := cs) hown (by omega)
    have hrun := run_copy_row (P := P) w dT sT ty elem g off L dCap ad L sCap cur elem cs hu hsz hg (by simp [hn]) hsrc hf h1
    rw [hn, List.append_assoc] at hrun
    rw [hn] at hr
    exact ⟨_, hrun, hr, grown_setRow hg⟩
end Go.Proofs.Ytinflmjombcolaa
