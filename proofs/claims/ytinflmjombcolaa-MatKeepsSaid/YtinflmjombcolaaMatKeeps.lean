/- For every matrix and column the law MatKeeps returns true. No condition. -/
import Derived.Test.YtinflmjombcolaaMatKp
import Derived.Test.YtinflmjombcolaaAgg
import Derived.Test.YtinflmjombcolaaLaw
namespace Go.Proofs.Ytinflmjombcolaa.matKeeps
open Go.ChangeShapes Go.WideShapes Go.ChangeAt Go.RowKit
set_option linter.unusedVariables false

theorem own : ownKnob Try.prog.godebug = none := by kernel_rfl

theorem readable : ∀ t ∈ Try.f7.params.toList, Try.prog.readableRec t = true ∧ t < Try.prog.types.size := by
  have h : (Try.f7.params.toList.all fun t => Try.prog.readableRec t && decide (t < Try.prog.types.size)) = true := by kernel_rfl
  intro t ht
  have h1 := List.all_eq_true.1 h t ht
  rw [Bool.and_eq_true] at h1
  exact ⟨h1.1, of_decide_eq_true h1.2⟩

set_option maxRecDepth 100000 in
theorem lifted (os : Os) (started : os.Started) (H : Type) (enc : TypeId × Value → H) :
    ReturnsInHanded {} Try.checked os 7 .any (Rows.matKeepsSpec.pre6 enc Try.prog Try.f7 Rows.matKeepsRow.domain false) (Rows.matKeepsSpec.post enc Try.prog Try.f7 false true false false) := by
  refine returnsInHanded_of_change (C := Try.checked) own started (by kernel_rfl) Try.func7
    (ChangeSpec.witness6 (enc := enc) (C := Try.checked) false ⟨#[], #[.agg #[.int .i64 0, .int .i64 0, .slice none 0 0], .slice none 0 0], []⟩ 8 (by kernel_rfl) (by kernel_rfl) (by kernel_rfl) (by kernel_rfl)) ?_
  intro W base args ds gs before hval0 hW hcnd _
  have hval : ∀ (j : Nat) t v, Try.f7.params[j]? = some t → args[j]? = some v → Value.okWide Try.prog W .any base t v := hval0
  have hW' := hW
  obtain ⟨p, q, hA0, hV, hpq, hfz, hnd⟩ := hW
  have hA : DataW.TrodAll enc Try.prog W 0 (fun _ => true) true Try.f7.params.toList args.toList ds p := hA0
  rw [Try.params7] at hA hval
  obtain ⟨v0, vs0, d0, ds0, p0, q0, hargs, rfl, rfl, h0, r0⟩ := trodAll_cons hA
  obtain ⟨v1, vs1, d1, ds1, p1, q1, rfl, rfl, rfl, h1, r1⟩ := trodAll_cons r0
  obtain ⟨rfl, rfl, rfl⟩ := trodAll_nil r1
  obtain rfl : args = #[v0, v1] := by cases args; simp_all
  clear hA0 hval0
  obtain ⟨cs_m, rfl, sz_m⟩ := agg_value Try.underlying24 (by kernel_rfl) (hval 0 24 v0 rfl rfl)
  obtain ⟨m0, m1, m2, rfl⟩ := Go.Joins.array3 sz_m
  have R_m := reads_arg h0
  have R_m_0 := reads_field (k := 1) (cs' := [m0]) Try.underlying24 R_m 0 _ rfl rfl rfl (by kernel_rfl) rfl
  have R_m_1 := reads_field (k := 1) (cs' := [m1]) Try.underlying24 R_m 1 _ rfl rfl rfl (by kernel_rfl) rfl
  have R_m_2 := reads_field (k := 1) (cs' := [m2]) Try.underlying24 R_m 2 _ rfl rfl rfl (by kernel_rfl) rfl
  obtain ⟨m0, rfl, wf_m0⟩ := reads_int Try.underlying3 R_m_0
  have w_m0 := wf_i64 wf_m0
  obtain ⟨m1, rfl, wf_m1⟩ := reads_int Try.underlying3 R_m_1
  have w_m1 := wf_i64 wf_m1
  obtain ⟨z_m2, L_m2, wf_m2, m_m2⟩ := reads_ints Try.underlying22 Try.underlying2 (by kernel_rfl) R_m_2
  obtain ⟨x, L_x, wf_x, m_x⟩ := arg_ints Try.underlying22 Try.underlying2 (by kernel_rfl) (hval 1 22 v1 rfl rfl) h1
  obtain ⟨a_x, len_x, cap_x, rfl⟩ := okWide_slice Try.underlying22 (hval 1 22 v1 rfl rfl)
  refine (walk_keeps m0 m1 _ _ z_m2 x (fun z hz => wf_i64 (wf_m2 z hz)) (fun z hz => wf_i64 (wf_x z hz)) W L_m2 L_x m_x).mono fun e W' ⟨he, hb⟩ => ?_
  subst he
  exact ⟨_, rfl, law_post (by kernel_rfl) (by kernel_rfl) Try.underlying4 readable rfl hW' hb (fun h => by subst h; rfl)⟩

theorem over : Rows.matKeepsRow.holds Try.pinned (OpenSpec.ofChange Rows.matKeepsSpec) :=
  OpenClaim.holds_of_wide 7 Try.f7 rfl rfl rfl rfl rfl rfl rfl ⟨rfl, rfl, rfl, rfl, rfl⟩ rfl rfl rfl rfl rfl (by kernel_rfl) Try.func7 (by kernel_rfl)
    (of_decide_eq_true (by kernel_rfl)) (by unfold Func.isWrapper; first | (rw [if_pos (by decide +kernel)]; kernel_rfl) | (rw [if_neg (by decide +kernel)]; exact ⟨rfl, rfl⟩))
    (fun os started H enc _ => lifted os started H enc)

theorem proved : Rows.MatKeepsSaid := over
#print axioms proved
end Go.Proofs.Ytinflmjombcolaa.matKeeps
