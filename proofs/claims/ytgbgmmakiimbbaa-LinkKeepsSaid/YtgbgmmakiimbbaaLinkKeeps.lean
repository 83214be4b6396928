/- For every message the law LinkKeeps returns true. No condition. -/
import Derived.Test.YtgbgmmakiimbbaaLnkV
import Derived.Test.YtgbgmmakiimbbaaAgg
import Derived.Test.YtgbgmmakiimbbaaLaw
namespace Go.Proofs.Ytgbgmmakiimbbaa.linkKeeps
open Go.ChangeShapes Go.WideShapes Go.ChangeAt Go.RowKit
set_option linter.unusedVariables false

theorem own : ownKnob Try.prog.godebug = none := by kernel_rfl

theorem readable : ∀ t ∈ Try.f5.params.toList, Try.prog.readableRec t = true ∧ t < Try.prog.types.size := by
  have h : (Try.f5.params.toList.all fun t => Try.prog.readableRec t && decide (t < Try.prog.types.size)) = true := by kernel_rfl
  intro t ht
  have h1 := List.all_eq_true.1 h t ht
  rw [Bool.and_eq_true] at h1
  exact ⟨h1.1, of_decide_eq_true h1.2⟩

set_option maxRecDepth 100000 in
theorem lifted (os : Os) (started : os.Started) (H : Type) (enc : TypeId × Value → H) :
    ReturnsInHanded {} Try.checked os 5 .any (Rows.linkKeepsSpec.pre6 enc Try.prog Try.f5 Rows.linkKeepsRow.domain false) (Rows.linkKeepsSpec.post enc Try.prog Try.f5 false true false false) := by
  refine returnsInHanded_of_change (C := Try.checked) own started (by kernel_rfl) Try.func5
    (ChangeSpec.witness6 (enc := enc) (C := Try.checked) false ⟨#[], #[.agg #[.int .i64 0, .int .i64 0, .int .i64 0, .int .i64 0, .int .i64 0, .slice none 0 0]], []⟩ 8 (by kernel_rfl) (by kernel_rfl) (by kernel_rfl) (by kernel_rfl)) ?_
  intro W base args ds gs before hval0 hW hcnd _
  have hval : ∀ (j : Nat) t v, Try.f5.params[j]? = some t → args[j]? = some v → Value.okWide Try.prog W .any base t v := hval0
  have hW' := hW
  obtain ⟨p, q, hA0, hV, hpq, hfz, hnd⟩ := hW
  have hA : DataW.TrodAll enc Try.prog W 0 (fun _ => true) true Try.f5.params.toList args.toList ds p := hA0
  rw [Try.params5] at hA hval
  obtain ⟨v0, vs0, d0, ds0, p0, q0, hargs, rfl, rfl, h0, r0⟩ := trodAll_cons hA
  obtain ⟨rfl, rfl, rfl⟩ := trodAll_nil r0
  obtain rfl : args = #[v0] := by cases args; simp_all
  clear hA0 hval0
  obtain ⟨cs_m, rfl, sz_m⟩ := agg_value Try.underlying34 (by kernel_rfl) (hval 0 34 v0 rfl rfl)
  obtain ⟨m0, m1, m2, m3, m4, m5, rfl⟩ := array6 sz_m
  have R_m := reads_arg h0
  have R_m_0 := reads_field (k := 5) (cs' := [m0, m1, m2, m3, m4]) Try.underlying34 R_m 0 _ rfl rfl rfl (by kernel_rfl) rfl
  have R_m_0_0 := reads_field (k := 1) (cs' := [m0]) Try.underlying31 R_m_0 0 _ rfl rfl rfl (by kernel_rfl) rfl
  have R_m_0_1 := reads_field (k := 1) (cs' := [m1]) Try.underlying31 R_m_0 1 _ rfl rfl rfl (by kernel_rfl) rfl
  have R_m_0_2 := reads_field (k := 1) (cs' := [m2]) Try.underlying31 R_m_0 2 _ rfl rfl rfl (by kernel_rfl) rfl
  have R_m_0_3 := reads_field (k := 1) (cs' := [m3]) Try.underlying31 R_m_0 3 _ rfl rfl rfl (by kernel_rfl) rfl
  have R_m_0_4 := reads_field (k := 1) (cs' := [m4]) Try.underlying31 R_m_0 4 _ rfl rfl rfl (by kernel_rfl) rfl
  have R_m_1 := reads_field (k := 1) (cs' := [m5]) Try.underlying34 R_m 1 _ rfl rfl rfl (by kernel_rfl) rfl
  obtain ⟨m0, rfl, wf_m0⟩ := reads_int Try.underlying3 R_m_0_0
  have w_m0 := wf_i64 wf_m0
  obtain ⟨m1, rfl, wf_m1⟩ := reads_int Try.underlying3 R_m_0_1
  have w_m1 := wf_i64 wf_m1
  obtain ⟨m2, rfl, wf_m2⟩ := reads_int Try.underlying3 R_m_0_2
  have w_m2 := wf_i64 wf_m2
  obtain ⟨m3, rfl, wf_m3⟩ := reads_int Try.underlying3 R_m_0_3
  have w_m3 := wf_i64 wf_m3
  obtain ⟨m4, rfl, wf_m4⟩ := reads_int Try.underlying3 R_m_0_4
  have w_m4 := wf_i64 wf_m4
  obtain ⟨z_m5, L_m5, wf_m5, m_m5⟩ := reads_ints Try.underlying32 Try.underlying2 (by kernel_rfl) R_m_1
  refine (walk_keeps m0 m1 m2 m3 m4 _ z_m5 W L_m5).mono fun e W' ⟨he, hb⟩ => ?_
  subst he
  exact ⟨_, rfl, law_post (by kernel_rfl) (by kernel_rfl) Try.underlying4 readable rfl hW' hb (fun h => by subst h; rfl)⟩

theorem over : Rows.linkKeepsRow.holds Try.pinned (OpenSpec.ofChange Rows.linkKeepsSpec) :=
  OpenClaim.holds_of_wide 5 Try.f5 rfl rfl rfl rfl rfl rfl rfl ⟨rfl, rfl, rfl, rfl, rfl⟩ rfl rfl rfl rfl rfl (by kernel_rfl) Try.func5 (by kernel_rfl)
    (of_decide_eq_true (by kernel_rfl)) (by unfold Func.isWrapper; first | (rw [if_pos (by decide +kernel)]; kernel_rfl) | (rw [if_neg (by decide +kernel)]; exact ⟨rfl, rfl⟩))
    (fun os started H enc _ => lifted os started H enc)

theorem proved : Rows.LinkKeepsSaid := over
#print axioms proved
end Go.Proofs.Ytgbgmmakiimbbaa.linkKeeps
