/- For any two states the law SgdCopies returns true. No condition. -/
import Derived.Test.YtmffgbmjomaehaaSgdCw
import Derived.Test.YtmffgbmjomaehaaAgg
import Derived.Test.YtmffgbmjomaehaaLaw
namespace Go.Proofs.Ytmffgbmjomaehaa.sgdCopies
open Go.ChangeShapes Go.WideShapes Go.ChangeAt Go.RowKit
set_option linter.unusedVariables false

theorem own : ownKnob Try.prog.godebug = none := by kernel_rfl

theorem readable : ∀ t ∈ Try.f7.params.toList, Try.prog.readableRec t = true ∧ t < Try.prog.types.size := by
  have h : (Try.f7.params.toList.all fun t => Try.prog.readableRec t && decide (t < Try.prog.types.size)) = true := by kernel_rfl
  intro t ht
  have h1 := List.all_eq_true.1 h t ht
  rw [Bool.and_eq_true] at h1
  exact ⟨h1.1, of_decide_eq_true h1.2⟩

set_option maxRecDepth 100000 in
set_option maxHeartbeats 1000000 in
theorem lifted (os : Os) (started : os.Started) (H : Type) (enc : TypeId × Value → H) :
    ReturnsInHanded {} Try.checked os 7 .any (Rows.sgdCopiesSpec.pre6 enc Try.prog Try.f7 Rows.sgdCopiesRow.domain false) (Rows.sgdCopiesSpec.post enc Try.prog Try.f7 false true false false) := by
  refine returnsInHanded_of_change (C := Try.checked) own started (by kernel_rfl) Try.func7
    (ChangeSpec.witness6 (enc := enc) (C := Try.checked) false ⟨#[], #[.agg #[.slice none 0 0, .slice none 0 0], .agg #[.slice none 0 0, .slice none 0 0]], []⟩ 8 (by kernel_rfl) (by kernel_rfl) (by kernel_rfl) (by kernel_rfl)) ?_
  intro W base args ds gs before hval0 hW hcnd _
  have hval : ∀ (j : Nat) t v, Try.f7.params[j]? = some t → args[j]? = some v → Value.okWide Try.prog W .any base t v := hval0
  have hW' := hW
  obtain ⟨p, q, hA0, hV, hpq, hfz, hnd⟩ := hW
  have hA : DataW.TrodAll enc Try.prog W 0 (fun _ => true) true Try.f7.params.toList args.toList ds p := hA0
  rw [Try.params7] at hA hval
  obtain ⟨v0, vs0, d0, ds0, p0, q0, hargs, rfl, rfl, h0, r0⟩ := trodAll_cons hA
  obtain ⟨v1, vs1, d1, ds1, p1, q1, rfl, rfl, rfl, h1, r1⟩ := trodAll_cons r0
  obtain ⟨rfl, rfl, rfl⟩ := trodAll_nil r1
  obtain rfl : args = #[v0, v1] := by cases args; simp_all
  clear hA0 hval0
  obtain ⟨cs_ua, rfl, sz_ua⟩ := agg_value Try.underlying26 (by kernel_rfl) (hval 0 26 v0 rfl rfl)
  obtain ⟨ua0, ua1, rfl⟩ := Go.Joins.array2 sz_ua
  have R_ua := reads_arg h0
  have R_ua_0 := reads_field (k := 1) (cs' := [ua0]) Try.underlying26 R_ua 0 _ rfl rfl rfl (by kernel_rfl) rfl
  have R_ua_1 := reads_field (k := 1) (cs' := [ua1]) Try.underlying26 R_ua 1 _ rfl rfl rfl (by kernel_rfl) rfl
  obtain ⟨z_ua0, L_ua0, wf_ua0, m_ua0⟩ := reads_ints Try.underlying24 Try.underlying2 (by kernel_rfl) R_ua_0
  obtain ⟨z_ua1, L_ua1, wf_ua1, m_ua1⟩ := reads_ints Try.underlying24 Try.underlying2 (by kernel_rfl) R_ua_1
  obtain ⟨cs_ub, rfl, sz_ub⟩ := agg_value Try.underlying26 (by kernel_rfl) (hval 1 26 v1 rfl rfl)
  obtain ⟨ub0, ub1, rfl⟩ := Go.Joins.array2 sz_ub
  have R_ub := reads_arg h1
  have R_ub_0 := reads_field (k := 1) (cs' := [ub0]) Try.underlying26 R_ub 0 _ rfl rfl rfl (by kernel_rfl) rfl
  have R_ub_1 := reads_field (k := 1) (cs' := [ub1]) Try.underlying26 R_ub 1 _ rfl rfl rfl (by kernel_rfl) rfl
  obtain ⟨z_ub0, L_ub0, wf_ub0, m_ub0⟩ := reads_ints Try.underlying24 Try.underlying2 (by kernel_rfl) R_ub_0
  obtain ⟨z_ub1, L_ub1, wf_ub1, m_ub1⟩ := reads_ints Try.underlying24 Try.underlying2 (by kernel_rfl) R_ub_1
  refine (walk_copies _ _ _ _ z_ua0 z_ua1 z_ub0 z_ub1 W m_ua0 m_ua1 m_ub0 m_ub1 L_ua0 L_ua1 L_ub0 L_ub1).mono fun e W' ⟨he, hb⟩ => ?_
  subst he
  exact ⟨_, rfl, law_post (by kernel_rfl) (by kernel_rfl) Try.underlying4 readable rfl hW' hb (fun h => by subst h; rfl)⟩

theorem over : Rows.sgdCopiesRow.holds Try.pinned (OpenSpec.ofChange Rows.sgdCopiesSpec) :=
  OpenClaim.holds_of_wide 7 Try.f7 rfl rfl rfl rfl rfl rfl rfl ⟨rfl, rfl, rfl, rfl, rfl⟩ rfl rfl rfl rfl rfl (by kernel_rfl) Try.func7 (by kernel_rfl)
    (of_decide_eq_true (by kernel_rfl)) (by unfold Func.isWrapper; first | (rw [if_pos (by decide +kernel)]; kernel_rfl) | (rw [if_neg (by decide +kernel)]; exact ⟨rfl, rfl⟩))
    (fun os started H enc _ => lifted os started H enc)

theorem proved : Rows.SgdCopiesSaid := over
#print axioms proved
end Go.Proofs.Ytmffgbmjomaehaa.sgdCopies
