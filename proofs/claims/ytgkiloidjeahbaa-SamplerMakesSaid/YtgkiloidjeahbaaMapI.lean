/- Maps of the call's own whose keys are integers: what they hold, key by key. -/
import Derived.Maps.OwnSet
import Derived.Maps.Views
import Derived.Test.YtgkiloidjeahbaaGen
namespace Go.Proofs.Ytgkiloidjeahbaa
open Go.RowKit Go.Maps
set_option linter.unusedVariables false
def WF (z : Int) : Prop := (Lit.int .i64 z).wf = true
theorem wf_of {z : Int} (h : -9223372036854775808 ≤ z ∧ z ≤ 9223372036854775807) : WF z := by
  unfold WF
  simpa [Lit.wf, IntKind.min, IntKind.max, IntKind.signed, IntKind.bits] using h
def MapIs (P : Program) (w : World) (k e : TypeId) (b n : Nat) (f : Int → Option Lit) : Prop :=
  ∃ D : DataW Unit, w.ownsMap P k (plainElem P e) b n D ∧ IsMap D ∧ ∀ z, WF z → has D (.int .i64 z) = (f z).isSome ∧ ∀ y, f z = some y → ∀ zd, D.atKey (.int .i64 z) zd = .lit y
theorem MapIs.new (P : Program) (w : World) (k e : TypeId) : MapIs P (w.alloc (.map #[] 0)) k e w.heap.size 0 (fun _ => none) :=
  ⟨.map [], World.ownsMap_made _ _ _ _, isMap_empty, fun z _ => ⟨rfl, fun y h => by cases h⟩⟩
theorem MapIs.kept {P : Program} {w w' : World} {k e : TypeId} {b n : Nat} {f : Int → Option Lit} {row : Option Nat} (h : MapIs P w k e b n f) (hg : w.grownBy w' row) (hne : some b ≠ row) : MapIs P w' k e b n f := by
  obtain ⟨D, h1, h2, h3⟩ := h
  exact ⟨D, h1.kept hg hne, h2, h3⟩
theorem MapIs.below {P : Program} {w w' : World} {k e : TypeId} {b n : Nat} {f : Int → Option Lit} (h : MapIs P w k e b n f) (hb : Below w.heap.size w w') : MapIs P w' k e b n f := h.kept (grown_below hb none) (by simp)
theorem MapIs.lt {P : Program} {w : World} {k e : TypeId} {b n : Nat} {f : Int → Option Lit} (h : MapIs P w k e b n f) : b < w.heap.size := by
  obtain ⟨D, h1, _⟩ := h
  exact h1.lt
def litsI (g : Int → Option Int) : Int → Option Lit := fun z => (g z).map (Lit.int .i64)
def litsB (g : Int → Bool) : Int → Option Lit := fun z => if g z then some (.bool true) else none
theorem MapIs.look_ok {P : Program} {w : World} {t k e : TypeId} {b n : Nat} {g : Int → Option Int} (h : MapIs P w k e b n (litsI g)) (hk : P.underlying k = some (.int .i64)) (ht : P.underlying t = some (.map k e)) (he : P.underlying e = some (.int .i64)) (hz : (zeroValue e).run P w = .ok (.int .i64 0) w) {z : Int} (hw : WF z) :
    (Instr.lookup t (.map (some b)) (.int .i64 z) true).run P w = .ok (.tuple #[.int .i64 ((g z).getD 0), .bool (g z).isSome]) w := by
  obtain ⟨D, h1, h2, h3⟩ := h
  obtain ⟨v, ps, hrun, hv⟩ := h1.look_ok (int_keyed hk) ht hz (plainElem_int he (by decide)) (keyOf_int_mk hk hw)
  obtain ⟨c, rfl, hc, _⟩ := plainElem_int_inv he hv
  obtain ⟨h4, h5⟩ := h3 z hw
  have hc' := congrArg Prod.fst hc
  simp only at hc'
  rw [hrun, h4]
  unfold litsI at h4 h5 ⊢
  cases hg : g z with
  | none =>
    rw [hg] at h4
    rw [atKey_of_not_has (by simpa using h4)] at hc'
    injection hc' with e1
    injection e1 with _ e2
    simp [← e2]
  | some y =>
    rw [hg] at h5
    rw [h5 _ rfl] at hc'
    injection hc' with e1
    injection e1 with _ e2
    simp [← e2]
theorem MapIs.look_bool {P : Program} {w : World} {t k e : TypeId} {b n : Nat} {g : Int → Bool} (h : MapIs P w k e b n (litsB g)) (hk : P.underlying k = some (.int .i64)) (ht : P.underlying t = some (.map k e)) (he : P.underlying e = some .bool) (hz : (zeroValue e).run P w = .ok (.bool false) w) {z : Int} (hw : WF z) :
    (Instr.lookup t (.map (some b)) (.int .i64 z) false).run P w = .ok (.bool (g z)) w := by
  obtain ⟨D, h1, h2, h3⟩ := h
  obtain ⟨v, ps, hrun, hv⟩ := h1.lookup (int_keyed hk) ht hz (plainElem_bool he false) (keyOf_int_mk hk hw)
  obtain ⟨h4, h5⟩ := h3 z hw
  rw [hrun]
  unfold litsB at h4 h5
  cases hg : g z with
  | false =>
    rw [hg] at h4
    rw [atKey_of_not_has (by simpa using h4)] at hv
    cases v <;> simp_all [plainElem]
  | true =>
    rw [hg] at h5
    rw [h5 (.bool true) (by simp)] at hv
    cases v <;> simp_all [plainElem]
theorem MapIs.put {P : Program} {w : World} {t k e : TypeId} {b n : Nat} {f f' : Int → Option Lit} (h : MapIs P w k e b n f) (hk : P.underlying k = some (.int .i64)) (ht : P.underlying t = some (.map k e)) (hn : n < maxLen) {z : Int} (hw : WF z) {val : Value} {y : Lit} (hval : plainElem (H := Unit) P e val = some (.lit y, []))
    (hf : ∀ x, f' x = if x = z then some y else f x) :
    ∃ w', (Instr.mapUpdate t (.map (some b)) (.int .i64 z) val).run P w = .ok () w' ∧ MapIs P w' k e b (n + 1) f' ∧ w.grownBy w' (some b) := by
  obtain ⟨D, h1, h2, h3⟩ := h
  have hkey : keyOf P k (.int .i64 z) = some (.int .i64 z) := keyOf_int_mk hk hw
  have hK := (int_keyed hk).key hkey
  obtain ⟨w', hrun, r1, r2⟩ := h1.update (int_keyed hk) ht hn hkey hval
  refine ⟨w', hrun, ⟨_, r1, h2.put _ _, fun x hx => ?_⟩, r2⟩
  rw [hf]
  by_cases hxz : x = z
  · subst hxz
    rw [if_pos rfl]
    refine ⟨has_put_same h2 hK _, fun y' hy' zd => ?_⟩
    rw [atKey_put_same h2 hK]
    injection hy' with hy'
    rw [hy']
  · rw [if_neg hxz]
    have hne : Lit.int .i64 x ≠ Lit.int .i64 z := fun e => hxz (by injection e)
    rw [has_put_other hne]
    refine ⟨(h3 x hx).1, fun y' hy' zd => ?_⟩
    rw [atKey_put_other hne]
    exact (h3 x hx).2 y' hy' zd
end Go.Proofs.Ytgkiloidjeahbaa
