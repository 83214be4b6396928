/- Layer 12: cutting lists: take, at, share, the reference's piece. -/
import Derived.Test.YtgkiloidjeahbaaSmpM
import Derived.Test.YtgkiloidjeahbaaPrmG
namespace Go.Proofs.Ytgkiloidjeahbaa
open Go.RowKit
set_option linter.unusedVariables false
theorem run_cut_lhm {P : Program} {T s : Nat} (hT : P.underlying T = some (.slice (P.elem T))) (hs : ∀ w, (sizeOf (P.elem T)).run P w = .ok s w) (a : Option Addr) (len cap : Nat) (k k' k'' : IntKind) (l h m : Int) (h0 : 0 ≤ l) (h1 : l ≤ h) (h2 : h ≤ m) (h3 : m ≤ cap) (w : World) :
    (Instr.slice T (.slice a len cap) (some (.int k l)) (some (.int k' h)) (some (.int k'' m))).run P w = .ok (cutv a l.toNat h.toNat m.toNat s) w := by
  rw [run_slice_lhm w T a len cap hT k k' k'' l h m h0 h1 h2 h3, hs]; rfl
theorem IntsAt.recap {q : IntKind} {n₀ cap : Nat} {p : Option Addr} {w : World} {zs : List Int} (h : IntsAt q n₀ w (.slice p zs.length cap) zs) : IntsAt q n₀ w (.slice p zs.length zs.length) zs := by
  rcases h.form with ⟨e, rfl⟩ | ⟨b, off, cap', e, hn, hb, hc⟩
  · have e2 : p = none := by simpa using (congrArg (fun v => match v with | Value.slice a _ _ => a | _ => none) e)
    subst e2
    exact IntsAt.nil
  · have e2 : p = some ⟨b, off, none⟩ := by simpa using (congrArg (fun v => match v with | Value.slice a _ _ => a | _ => none) e)
    subst e2
    exact IntsAt.mk (Nat.le_refl _) hb hc
/-- a part of a list, whose room ends with it -/
theorem IntsAt.part {q : IntKind} {n₀ l h n cap : Nat} {a : Option Addr} {w : World} {zs : List Int} (hl : l ≤ h) (hh : h ≤ zs.length) (hx : IntsAt q n₀ w (.slice a n cap) zs) : IntsAt q n₀ w (cutv a l h h 1) (cutL zs l h) := by
  have h1 := IntsAt.take hh hx
  have e : (zs.take h).length = h := by rw [List.length_take]; exact Nat.min_eq_left hh
  have h2 : IntsAt q n₀ w (.slice a (zs.take h).length cap) (zs.take h) := by rw [e]; exact h1
  have h3 := h2.recap
  have h4 := IntsAt.cut (l := l) (h := h) hl (by rw [e]; exact Nat.le_refl _) h3
  rw [e, List.take_take, Nat.min_self] at h4
  exact h4
theorem IntsAt.cap {q : IntKind} {n₀ n cap : Nat} {a : Option Addr} {w : World} {zs : List Int} (hx : IntsAt q n₀ w (.slice a n cap) zs) : zs.length ≤ cap := by
  rcases hx.form with ⟨e, rfl⟩ | ⟨b, off, cap', e, hc, _⟩ <;> cases e
  · exact Nat.zero_le _
  · exact hc
theorem sizeW : ∀ w, (sizeOf (Try.prog.elem 38)).run Try.prog w = .ok 1 w := fun w => by kernel_rfl
theorem typeW : Try.prog.underlying 38 = some (.slice (Try.prog.elem 38)) := by kernel_rfl
/-- a part of a list -/
def PartOf (zs : List Int) (w : World) (e : Ending) (w' : World) : Prop := ∃ u, e = .returned u ∧ IntsAt .i64 w'.heap.size w' u zs ∧ Below w.heap.size w w'
theorem take_any (v : Value) (zs : List Int) (hz : zs.length ≤ 9223372036854775807) (lo hi : Nat) (h1 : lo ≤ hi) (h2 : hi ≤ zs.length) (w : World) (hv : IntsAt .i64 w.heap.size w v zs) :
    Calls Try.prog 39 #[v, .agg #[.int .i64 lo, .int .i64 hi]] w (PartOf (cutL zs lo hi) w) := by
  obtain ⟨a, c, rfl⟩ := ints_value hv
  have hc := hv.cap
  have AL := (Below.refl w.heap.size w).alloc (Nat.le_refl _) (.cells #[.int .i64 lo, .int .i64 hi] 83)
  have F := cells_two w (.int .i64 lo) (.int .i64 hi) 83
  have hP := Lib.hid (IntsAt.part h1 h2 (hv.later AL))
  have hr := fun W => run_cut_lhm (P := Try.prog) typeW sizeW a zs.length c .i64 .i64 .i64 lo hi hi (by omega) (by omega) (by omega) (by omega) W
  simp only [Int.toNat_natCast] at hr
  obtain ⟨f0, f1⟩ := F
  have B := Lib.hid AL
  clear hv AL
  go_enter Try.func39, Try.ntmps39
  go_wp2_with fail
  go_ret
  exact ⟨_, rfl, hP.out, B.out⟩
end Go.Proofs.Ytgkiloidjeahbaa
