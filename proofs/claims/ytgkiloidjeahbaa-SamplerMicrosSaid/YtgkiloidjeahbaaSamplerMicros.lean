/- For every run, every int and every array of three uint8 the law SamplerMicros returns true. No condition. -/
import Derived.Test.YtgkiloidjeahbaaSmpK
import Derived.Test.YtgkiloidjeahbaaAgg
import Derived.Test.YtgkiloidjeahbaaLaw
namespace Go.Proofs.Ytgkiloidjeahbaa.samplerMicros
open Go.ChangeShapes Go.WideShapes Go.ChangeAt Go.RowKit
set_option linter.unusedVariables false

theorem own : ownKnob Try.prog.godebug = none := by kernel_rfl

theorem readable : ∀ t ∈ Try.f5.params.toList, Try.prog.readableRec t = true ∧ t < Try.prog.types.size := by
  have h : (Try.f5.params.toList.all fun t => Try.prog.readableRec t && decide (t < Try.prog.types.size)) = true := by kernel_rfl
  intro t ht
  have h1 := List.all_eq_true.1 h t ht
  rw [Bool.and_eq_true] at h1
  exact ⟨h1.1, of_decide_eq_true h1.2⟩

set_option maxRecDepth 100000 in
theorem lifted (os : Os) (started : os.Started) (H : Type) (enc : TypeId × Value → H) :
    ReturnsInHanded {} Try.checked os 5 .any (Rows.samplerMicrosSpec.pre6 enc Try.prog Try.f5 Rows.samplerMicrosRow.domain false) (Rows.samplerMicrosSpec.post enc Try.prog Try.f5 false true false false) := by
  refine returnsInHanded_of_change (C := Try.checked) own started (by kernel_rfl) Try.func5
    (ChangeSpec.witness6 (enc := enc) (C := Try.checked) false ⟨#[], #[.agg #[.int .i64 0, .int .i64 0, .int .i64 0, .slice none 0 0], .int .i64 0, .agg #[.int .u8 0, .int .u8 0, .int .u8 0]], []⟩ 8 (by kernel_rfl) (by kernel_rfl) (by kernel_rfl) (by kernel_rfl)) ?_
  intro W base args ds gs before hval0 hW hcnd _
  have hval : ∀ (j : Nat) t v, Try.f5.params[j]? = some t → args[j]? = some v → Value.okWide Try.prog W .any base t v := hval0
  have hW' := hW
  obtain ⟨p, q, hA0, hV, hpq, hfz, hnd⟩ := hW
  have hA : DataW.TrodAll enc Try.prog W 0 (fun _ => true) true Try.f5.params.toList args.toList ds p := hA0
  rw [Try.params5] at hA hval
  obtain ⟨v0, vs0, d0, ds0, p0, q0, hargs, rfl, rfl, h0, r0⟩ := trodAll_cons hA
  obtain ⟨v1, vs1, d1, ds1, p1, q1, rfl, rfl, rfl, h1, r1⟩ := trodAll_cons r0
  obtain ⟨v2, vs2, d2, ds2, p2, q2, rfl, rfl, rfl, h2, r2⟩ := trodAll_cons r1
  obtain ⟨rfl, rfl, rfl⟩ := trodAll_nil r2
  obtain rfl : args = #[v0, v1, v2] := by cases args; simp_all
  clear hA0 hval0
  obtain ⟨cs_x, rfl, sz_x⟩ := agg_value Try.underlying24 (by kernel_rfl) (hval 0 24 v0 rfl rfl)
  obtain ⟨x0, x1, x2, x3, rfl⟩ := Go.Joins.array4 sz_x
  have R_x := reads_arg h0
  have R_x_0 := reads_field (k := 1) (cs' := [x0]) Try.underlying24 R_x 0 _ rfl rfl rfl (by kernel_rfl) rfl
  have R_x_1 := reads_field (k := 1) (cs' := [x1]) Try.underlying24 R_x 1 _ rfl rfl rfl (by kernel_rfl) rfl
  have R_x_2 := reads_field (k := 1) (cs' := [x2]) Try.underlying24 R_x 2 _ rfl rfl rfl (by kernel_rfl) rfl
  have R_x_3 := reads_field (k := 1) (cs' := [x3]) Try.underlying24 R_x 3 _ rfl rfl rfl (by kernel_rfl) rfl
  obtain ⟨x0, rfl, wf_x0⟩ := reads_int Try.underlying3 R_x_0
  have w_x0 := wf_i64 wf_x0
  obtain ⟨x1, rfl, wf_x1⟩ := reads_int Try.underlying3 R_x_1
  have w_x1 := wf_i64 wf_x1
  obtain ⟨x2, rfl, wf_x2⟩ := reads_int Try.underlying3 R_x_2
  have w_x2 := wf_i64 wf_x2
  obtain ⟨z_x3, L_x3, wf_x3, m_x3⟩ := reads_ints Try.underlying22 Try.underlying36 (by kernel_rfl) R_x_3
  obtain ⟨t, rfl, rfl, rfl, wf1⟩ := open_int Try.underlying3 (hval 1 3 v1 rfl rfl) h1
  have w_t := wf_i64 wf1
  obtain ⟨cs_m, rfl, sz_m⟩ := arr_value Try.underlying48 (by kernel_rfl) (hval 2 48 v2 rfl rfl)
  obtain ⟨m0, m1, m2, rfl⟩ := Go.Joins.array3 sz_m
  have R_m := reads_arg h2
  have R_m_0 := reads_elem (k := 1) (cs' := [m0]) Try.underlying48 R_m 0 (by decide) (by kernel_rfl) rfl
  have R_m_1 := reads_elem (k := 1) (cs' := [m1]) Try.underlying48 R_m 1 (by decide) (by kernel_rfl) rfl
  have R_m_2 := reads_elem (k := 1) (cs' := [m2]) Try.underlying48 R_m 2 (by decide) (by kernel_rfl) rfl
  obtain ⟨m0, rfl, wf_m0⟩ := reads_int Try.underlying5 R_m_0
  have w_m0 := wf_u8 wf_m0
  obtain ⟨m1, rfl, wf_m1⟩ := reads_int Try.underlying5 R_m_1
  have w_m1 := wf_u8 wf_m1
  obtain ⟨m2, rfl, wf_m2⟩ := reads_int Try.underlying5 R_m_2
  have w_m2 := wf_u8 wf_m2
  refine (walk_micros x0 x1 x2 t w_t m0 m1 m2 w_m0 w_m1 w_m2 _ z_x3 (fun z hz => wf_u64 (wf_x3 z hz)) W L_x3).mono fun e W' ⟨he, hb⟩ => ?_
  subst he
  exact ⟨_, rfl, law_post (by kernel_rfl) (by kernel_rfl) Try.underlying4 readable rfl hW' hb (fun h => by subst h; rfl)⟩

theorem over : Rows.samplerMicrosRow.holds Try.pinned (OpenSpec.ofChange Rows.samplerMicrosSpec) :=
  OpenClaim.holds_of_wide 5 Try.f5 rfl rfl rfl rfl rfl rfl rfl ⟨rfl, rfl, rfl, rfl, rfl⟩ rfl rfl rfl rfl rfl (by kernel_rfl) Try.func5 (by kernel_rfl)
    (of_decide_eq_true (by kernel_rfl)) (by unfold Func.isWrapper; first | (rw [if_pos (by decide +kernel)]; kernel_rfl) | (rw [if_neg (by decide +kernel)]; exact ⟨rfl, rfl⟩))
    (fun os started H enc _ => lifted os started H enc)

theorem proved : Rows.SamplerMicrosSaid := over
#print axioms proved
end Go.Proofs.Ytgkiloidjeahbaa.samplerMicros
