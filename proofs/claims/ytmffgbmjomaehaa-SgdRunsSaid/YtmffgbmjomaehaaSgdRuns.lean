/- For every rule, state and list of lists of int64 the law SgdRuns returns true. No condition. -/
import Derived.Test.YtmffgbmjomaehaaSgdO
import Derived.Test.YtmffgbmjomaehaaAgg
import Derived.Test.YtmffgbmjomaehaaLaw
namespace Go.Proofs.Ytmffgbmjomaehaa.sgdRuns
open Go.ChangeShapes Go.WideShapes Go.ChangeAt Go.RowKit
set_option linter.unusedVariables false

theorem own : ownKnob Try.prog.godebug = none := by kernel_rfl

theorem readable : ∀ t ∈ Try.f6.params.toList, Try.prog.readableRec t = true ∧ t < Try.prog.types.size := by
  have h : (Try.f6.params.toList.all fun t => Try.prog.readableRec t && decide (t < Try.prog.types.size)) = true := by kernel_rfl
  intro t ht
  have h1 := List.all_eq_true.1 h t ht
  rw [Bool.and_eq_true] at h1
  exact ⟨h1.1, of_decide_eq_true h1.2⟩

set_option maxRecDepth 100000 in
set_option maxHeartbeats 1000000 in
theorem lifted (os : Os) (started : os.Started) (H : Type) (enc : TypeId × Value → H) :
    ReturnsInHanded {} Try.checked os 6 .any (Rows.sgdRunsSpec.pre6 enc Try.prog Try.f6 Rows.sgdRunsRow.domain false) (Rows.sgdRunsSpec.post enc Try.prog Try.f6 false true false false) := by
  refine returnsInHanded_of_change (C := Try.checked) own started (by kernel_rfl) Try.func6
    (ChangeSpec.witness6 (enc := enc) (C := Try.checked) false ⟨#[], #[.agg #[.int .i64 0, .int .i64 0, .int .i64 0], .agg #[.slice none 0 0, .slice none 0 0], .slice none 0 0], []⟩ 8 (by kernel_rfl) (by kernel_rfl) (by kernel_rfl) (by kernel_rfl)) ?_
  intro W base args ds gs before hval0 hW hcnd _
  have hval : ∀ (j : Nat) t v, Try.f6.params[j]? = some t → args[j]? = some v → Value.okWide Try.prog W .any base t v := hval0
  have hW' := hW
  obtain ⟨p, q, hA0, hV, hpq, hfz, hnd⟩ := hW
  have hA : DataW.TrodAll enc Try.prog W 0 (fun _ => true) true Try.f6.params.toList args.toList ds p := hA0
  rw [Try.params6] at hA hval
  obtain ⟨v0, vs0, d0, ds0, p0, q0, hargs, rfl, rfl, h0, r0⟩ := trodAll_cons hA
  obtain ⟨v1, vs1, d1, ds1, p1, q1, rfl, rfl, rfl, h1, r1⟩ := trodAll_cons r0
  obtain ⟨v2, vs2, d2, ds2, p2, q2, rfl, rfl, rfl, h2, r2⟩ := trodAll_cons r1
  obtain ⟨rfl, rfl, rfl⟩ := trodAll_nil r2
  obtain rfl : args = #[v0, v1, v2] := by cases args; simp_all
  clear hA0 hval0
  obtain ⟨cs_ru, rfl, sz_ru⟩ := agg_value Try.underlying23 (by kernel_rfl) (hval 0 23 v0 rfl rfl)
  obtain ⟨ru0, ru1, ru2, rfl⟩ := Go.Joins.array3 sz_ru
  have R_ru := reads_arg h0
  have R_ru_0 := reads_field (k := 1) (cs' := [ru0]) Try.underlying23 R_ru 0 _ rfl rfl rfl (by kernel_rfl) rfl
  have R_ru_1 := reads_field (k := 1) (cs' := [ru1]) Try.underlying23 R_ru 1 _ rfl rfl rfl (by kernel_rfl) rfl
  have R_ru_2 := reads_field (k := 1) (cs' := [ru2]) Try.underlying23 R_ru 2 _ rfl rfl rfl (by kernel_rfl) rfl
  obtain ⟨ru0, rfl, wf_ru0⟩ := reads_int Try.underlying2 R_ru_0
  have w_ru0 := wf_i64 wf_ru0
  obtain ⟨ru1, rfl, wf_ru1⟩ := reads_int Try.underlying2 R_ru_1
  have w_ru1 := wf_i64 wf_ru1
  obtain ⟨ru2, rfl, wf_ru2⟩ := reads_int Try.underlying3 R_ru_2
  have w_ru2 := wf_i64 wf_ru2
  obtain ⟨cs_s, rfl, sz_s⟩ := agg_value Try.underlying26 (by kernel_rfl) (hval 1 26 v1 rfl rfl)
  obtain ⟨s0, s1, rfl⟩ := Go.Joins.array2 sz_s
  have R_s := reads_arg h1
  have R_s_0 := reads_field (k := 1) (cs' := [s0]) Try.underlying26 R_s 0 _ rfl rfl rfl (by kernel_rfl) rfl
  have R_s_1 := reads_field (k := 1) (cs' := [s1]) Try.underlying26 R_s 1 _ rfl rfl rfl (by kernel_rfl) rfl
  obtain ⟨z_s0, L_s0, wf_s0, m_s0⟩ := reads_ints Try.underlying24 Try.underlying2 (by kernel_rfl) R_s_0
  obtain ⟨z_s1, L_s1, wf_s1, m_s1⟩ := reads_ints Try.underlying24 Try.underlying2 (by kernel_rfl) R_s_1
  obtain ⟨l, L_l, wf_l, lm_l, m_l⟩ := arg_int_rows Try.underlying57 Try.underlying24 Try.underlying2 (by kernel_rfl) (by kernel_rfl) (hval 2 57 v2 rfl rfl) h2
  obtain ⟨a_l, len_l, cap_l, rfl⟩ := okWide_slice Try.underlying57 (hval 2 57 v2 rfl rfl)
  refine (walk_runs ru0 ru1 ru2 _ _ _ z_s0 z_s1 l w_ru0 w_ru1 (fun z hz => wf_i64 (wf_s0 z hz)) (fun z hz => wf_i64 (wf_s1 z hz)) W m_s0 m_s1 m_l lm_l L_s0 L_s1 L_l).mono fun e W' ⟨he, hb⟩ => ?_
  subst he
  exact ⟨_, rfl, law_post (by kernel_rfl) (by kernel_rfl) Try.underlying4 readable rfl hW' hb (fun h => by subst h; rfl)⟩

theorem over : Rows.sgdRunsRow.holds Try.pinned (OpenSpec.ofChange Rows.sgdRunsSpec) :=
  OpenClaim.holds_of_wide 6 Try.f6 rfl rfl rfl rfl rfl rfl rfl ⟨rfl, rfl, rfl, rfl, rfl⟩ rfl rfl rfl rfl rfl (by kernel_rfl) Try.func6 (by kernel_rfl)
    (of_decide_eq_true (by kernel_rfl)) (by unfold Func.isWrapper; first | (rw [if_pos (by decide +kernel)]; kernel_rfl) | (rw [if_neg (by decide +kernel)]; exact ⟨rfl, rfl⟩))
    (fun os started H enc _ => lifted os started H enc)

theorem proved : Rows.SgdRunsSaid := over
#print axioms proved
end Go.Proofs.Ytmffgbmjomaehaa.sgdRuns
