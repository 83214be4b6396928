/- For every run and every int the law SamplerMakes returns true. No condition. -/
import Derived.Test.YtgkiloidjeahbaaSmpL
import Derived.Test.YtgkiloidjeahbaaAgg
import Derived.Test.YtgkiloidjeahbaaLaw
namespace Go.Proofs.Ytgkiloidjeahbaa.samplerMakes
open Go.ChangeShapes Go.WideShapes Go.ChangeAt Go.RowKit
set_option linter.unusedVariables false

theorem own : ownKnob Try.prog.godebug = none := by kernel_rfl

theorem readable : ∀ t ∈ Try.f3.params.toList, Try.prog.readableRec t = true ∧ t < Try.prog.types.size := by
  have h : (Try.f3.params.toList.all fun t => Try.prog.readableRec t && decide (t < Try.prog.types.size)) = true := by kernel_rfl
  intro t ht
  have h1 := List.all_eq_true.1 h t ht
  rw [Bool.and_eq_true] at h1
  exact ⟨h1.1, of_decide_eq_true h1.2⟩

set_option maxRecDepth 100000 in
theorem lifted (os : Os) (started : os.Started) (H : Type) (enc : TypeId × Value → H) :
    ReturnsInHanded {} Try.checked os 3 .any (Rows.samplerMakesSpec.pre6 enc Try.prog Try.f3 Rows.samplerMakesRow.domain false) (Rows.samplerMakesSpec.post enc Try.prog Try.f3 false true false false) := by
  refine returnsInHanded_of_change (C := Try.checked) own started (by kernel_rfl) Try.func3
    (ChangeSpec.witness6 (enc := enc) (C := Try.checked) false ⟨#[], #[.agg #[.int .i64 0, .int .i64 0, .int .i64 0, .slice none 0 0], .int .i64 0], []⟩ 8 (by kernel_rfl) (by kernel_rfl) (by kernel_rfl) (by kernel_rfl)) ?_
  intro W base args ds gs before hval0 hW hcnd _
  have hval : ∀ (j : Nat) t v, Try.f3.params[j]? = some t → args[j]? = some v → Value.okWide Try.prog W .any base t v := hval0
  have hW' := hW
  obtain ⟨p, q, hA0, hV, hpq, hfz, hnd⟩ := hW
  have hA : DataW.TrodAll enc Try.prog W 0 (fun _ => true) true Try.f3.params.toList args.toList ds p := hA0
  rw [Try.params3] at hA hval
  obtain ⟨v0, vs0, d0, ds0, p0, q0, hargs, rfl, rfl, h0, r0⟩ := trodAll_cons hA
  obtain ⟨v1, vs1, d1, ds1, p1, q1, rfl, rfl, rfl, h1, r1⟩ := trodAll_cons r0
  obtain ⟨rfl, rfl, rfl⟩ := trodAll_nil r1
  obtain rfl : args = #[v0, v1] := by cases args; simp_all
  clear hA0 hval0
  obtain ⟨cs_x, rfl, sz_x⟩ := agg_value Try.underlying24 (by kernel_rfl) (hval 0 24 v0 rfl rfl)
  obtain ⟨x0, x1, x2, x3, rfl⟩ := Go.Joins.array4 sz_x
  have R_x := reads_arg h0
  have R_x_0 := reads_field (k := 1) (cs' := [x0]) Try.underlying24 R_x 0 _ rfl rfl rfl (by kernel_rfl) rfl
  have R_x_1 := reads_field (k := 1) (cs' := [x1]) Try.underlying24 R_x 1 _ rfl rfl rfl (by kernel_rfl) rfl
  have R_x_2 := reads_field (k := 1) (cs' := [x2]) Try.underlying24 R_x 2 _ rfl rfl rfl (by kernel_rfl) rfl
  have R_x_3 := reads_field (k := 1) (cs' := [x3]) Try.underlying24 R_x 3 _ rfl rfl rfl (by kernel_rfl) rfl
  obtain ⟨x0, rfl, wf_x0⟩ := reads_int Try.underlying3 R_x_0
  have w_x0 := wf_i64 wf_x0
  obtain ⟨x1, rfl, wf_x1⟩ := reads_int Try.underlying3 R_x_1
  have w_x1 := wf_i64 wf_x1
  obtain ⟨x2, rfl, wf_x2⟩ := reads_int Try.underlying3 R_x_2
  have w_x2 := wf_i64 wf_x2
  obtain ⟨z_x3, L_x3, wf_x3, m_x3⟩ := reads_ints Try.underlying22 Try.underlying36 (by kernel_rfl) R_x_3
  obtain ⟨t, rfl, rfl, rfl, wf1⟩ := open_int Try.underlying3 (hval 1 3 v1 rfl rfl) h1
  have w_t := wf_i64 wf1
  refine (walk_makes x0 x1 x2 t w_t _ z_x3 (fun z hz => wf_u64 (wf_x3 z hz)) W L_x3).mono fun e W' ⟨he, hb⟩ => ?_
  subst he
  exact ⟨_, rfl, law_post (by kernel_rfl) (by kernel_rfl) Try.underlying4 readable rfl hW' hb (fun h => by subst h; rfl)⟩

theorem over : Rows.samplerMakesRow.holds Try.pinned (OpenSpec.ofChange Rows.samplerMakesSpec) :=
  OpenClaim.holds_of_wide 3 Try.f3 rfl rfl rfl rfl rfl rfl rfl ⟨rfl, rfl, rfl, rfl, rfl⟩ rfl rfl rfl rfl rfl (by kernel_rfl) Try.func3 (by kernel_rfl)
    (of_decide_eq_true (by kernel_rfl)) (by unfold Func.isWrapper; first | (rw [if_pos (by decide +kernel)]; kernel_rfl) | (rw [if_neg (by decide +kernel)]; exact ⟨rfl, rfl⟩))
    (fun os started H enc _ => lifted os started H enc)

theorem proved : Rows.SamplerMakesSaid := over
#print axioms proved
end Go.Proofs.Ytgkiloidjeahbaa.samplerMakes
