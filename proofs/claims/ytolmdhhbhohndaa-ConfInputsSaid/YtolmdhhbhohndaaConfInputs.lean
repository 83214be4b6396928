/- For every input the law ConfInputs returns true. No condition. -/
import Derived.Test.YtolmdhhbhohndaaCnfJ
import Derived.Test.YtolmdhhbhohndaaAgg
import Derived.Test.YtolmdhhbhohndaaArr
import Derived.Test.YtolmdhhbhohndaaLaw
namespace Go.Proofs.Ytolmdhhbhohndaa.confInputs
open Go.ChangeShapes Go.WideShapes Go.ChangeAt Go.RowKit
set_option linter.unusedVariables false

theorem own : ownKnob Try.prog.godebug = none := by kernel_rfl

theorem readable : ∀ t ∈ Try.f4.params.toList, Try.prog.readableRec t = true ∧ t < Try.prog.types.size := by
  have h : (Try.f4.params.toList.all fun t => Try.prog.readableRec t && decide (t < Try.prog.types.size)) = true := by kernel_rfl
  intro t ht
  have h1 := List.all_eq_true.1 h t ht
  rw [Bool.and_eq_true] at h1
  exact ⟨h1.1, of_decide_eq_true h1.2⟩

set_option maxRecDepth 100000 in
theorem lifted (os : Os) (started : os.Started) (H : Type) (enc : TypeId × Value → H) :
    ReturnsInHanded {} Try.checked os 4 .any (Rows.confInputsSpec.pre6 enc Try.prog Try.f4 Rows.confInputsRow.domain false) (Rows.confInputsSpec.post enc Try.prog Try.f4 false true false false) := by
  refine returnsInHanded_of_change (C := Try.checked) own started (by kernel_rfl) Try.func4
    (ChangeSpec.witness6 (enc := enc) (C := Try.checked) false ⟨#[], #[.agg #[.slice none 0 0, .int .i64 0, .int .i64 0, .int .i64 0, .int .i64 0, .int .i64 0, .int .i64 0, .int .i64 0, .int .i64 0, .int .i64 0, .int .i64 0, .int .i64 0, .slice none 0 0, .slice none 0 0, .slice none 0 0]], []⟩ 8 (by kernel_rfl) (by kernel_rfl) (by kernel_rfl) (by kernel_rfl)) ?_
  intro W base args ds gs before hval0 hW hcnd _
  have hval : ∀ (j : Nat) t v, Try.f4.params[j]? = some t → args[j]? = some v → Value.okWide Try.prog W .any base t v := hval0
  have hW' := hW
  obtain ⟨p, q, hA0, hV, hpq, hfz, hnd⟩ := hW
  have hA : DataW.TrodAll enc Try.prog W 0 (fun _ => true) true Try.f4.params.toList args.toList ds p := hA0
  rw [Try.params4] at hA hval
  obtain ⟨v0, vs0, d0, ds0, p0, q0, hargs, rfl, rfl, h0, r0⟩ := trodAll_cons hA
  obtain ⟨rfl, rfl, rfl⟩ := trodAll_nil r0
  obtain rfl : args = #[v0] := by cases args; simp_all
  clear hA0 hval0
  obtain ⟨cs_i, rfl, sz_i⟩ := agg_value Try.underlying34 (by kernel_rfl) (hval 0 34 v0 rfl rfl)
  obtain ⟨i0, i1, i2, i3, i4, i5, i6, i7, i8, i9, i10, i11, i12, i13, i14, rfl⟩ := array15 sz_i
  have R_i := reads_arg h0
  have R_i_0 := reads_field (k := 12) (cs' := [i0, i1, i2, i3, i4, i5, i6, i7, i8, i9, i10, i11]) Try.underlying34 R_i 0 _ rfl rfl rfl (by kernel_rfl) rfl
  have R_i_0_0 := reads_field (k := 1) (cs' := [i0]) Try.underlying24 R_i_0 0 _ rfl rfl rfl (by kernel_rfl) rfl
  have R_i_0_1 := reads_field (k := 1) (cs' := [i1]) Try.underlying24 R_i_0 1 _ rfl rfl rfl (by kernel_rfl) rfl
  have R_i_0_2 := reads_field (k := 1) (cs' := [i2]) Try.underlying24 R_i_0 2 _ rfl rfl rfl (by kernel_rfl) rfl
  have R_i_0_3 := reads_field (k := 1) (cs' := [i3]) Try.underlying24 R_i_0 3 _ rfl rfl rfl (by kernel_rfl) rfl
  have R_i_0_4 := reads_field (k := 1) (cs' := [i4]) Try.underlying24 R_i_0 4 _ rfl rfl rfl (by kernel_rfl) rfl
  have R_i_0_5 := reads_field (k := 1) (cs' := [i5]) Try.underlying24 R_i_0 5 _ rfl rfl rfl (by kernel_rfl) rfl
  have R_i_0_6 := reads_field (k := 1) (cs' := [i6]) Try.underlying24 R_i_0 6 _ rfl rfl rfl (by kernel_rfl) rfl
  have R_i_0_7 := reads_field (k := 1) (cs' := [i7]) Try.underlying24 R_i_0 7 _ rfl rfl rfl (by kernel_rfl) rfl
  have R_i_0_8 := reads_field (k := 1) (cs' := [i8]) Try.underlying24 R_i_0 8 _ rfl rfl rfl (by kernel_rfl) rfl
  have R_i_0_9 := reads_field (k := 1) (cs' := [i9]) Try.underlying24 R_i_0 9 _ rfl rfl rfl (by kernel_rfl) rfl
  have R_i_0_10 := reads_field (k := 1) (cs' := [i10]) Try.underlying24 R_i_0 10 _ rfl rfl rfl (by kernel_rfl) rfl
  have R_i_0_11 := reads_field (k := 1) (cs' := [i11]) Try.underlying24 R_i_0 11 _ rfl rfl rfl (by kernel_rfl) rfl
  have R_i_1 := reads_field (k := 1) (cs' := [i12]) Try.underlying34 R_i 1 _ rfl rfl rfl (by kernel_rfl) rfl
  have R_i_2 := reads_field (k := 1) (cs' := [i13]) Try.underlying34 R_i 2 _ rfl rfl rfl (by kernel_rfl) rfl
  have R_i_3 := reads_field (k := 1) (cs' := [i14]) Try.underlying34 R_i 3 _ rfl rfl rfl (by kernel_rfl) rfl
  obtain ⟨z_i0, L_i0, wf_i0, m_i0⟩ := reads_ints Try.underlying22 Try.underlying3 (by kernel_rfl) R_i_0_0
  obtain ⟨i1, rfl, wf_i1⟩ := reads_int Try.underlying3 R_i_0_1
  have w_i1 := wf_i64 wf_i1
  obtain ⟨i2, rfl, wf_i2⟩ := reads_int Try.underlying2 R_i_0_2
  have w_i2 := wf_i64 wf_i2
  obtain ⟨i3, rfl, wf_i3⟩ := reads_int Try.underlying2 R_i_0_3
  have w_i3 := wf_i64 wf_i3
  obtain ⟨i4, rfl, wf_i4⟩ := reads_int Try.underlying3 R_i_0_4
  have w_i4 := wf_i64 wf_i4
  obtain ⟨i5, rfl, wf_i5⟩ := reads_int Try.underlying3 R_i_0_5
  have w_i5 := wf_i64 wf_i5
  obtain ⟨i6, rfl, wf_i6⟩ := reads_int Try.underlying3 R_i_0_6
  have w_i6 := wf_i64 wf_i6
  obtain ⟨i7, rfl, wf_i7⟩ := reads_int Try.underlying3 R_i_0_7
  have w_i7 := wf_i64 wf_i7
  obtain ⟨i8, rfl, wf_i8⟩ := reads_int Try.underlying3 R_i_0_8
  have w_i8 := wf_i64 wf_i8
  obtain ⟨i9, rfl, wf_i9⟩ := reads_int Try.underlying3 R_i_0_9
  have w_i9 := wf_i64 wf_i9
  obtain ⟨i10, rfl, wf_i10⟩ := reads_int Try.underlying3 R_i_0_10
  have w_i10 := wf_i64 wf_i10
  obtain ⟨i11, rfl, wf_i11⟩ := reads_int Try.underlying3 R_i_0_11
  have w_i11 := wf_i64 wf_i11
  obtain ⟨z_i12, L_i12, m_i12, wf_i12⟩ := reads_exs Try.underlying30 Try.underlying55 (by kernel_rfl) rfl rfl (by kernel_rfl) (by kernel_rfl) Try.underlying31 Try.underlying31 Try.underlying2 (by kernel_rfl) R_i_1
  obtain ⟨z_i13, L_i13, wf_i13, m_i13⟩ := reads_ints Try.underlying31 Try.underlying2 (by kernel_rfl) R_i_2
  obtain ⟨z_i14, L_i14, wf_i14, m_i14⟩ := reads_ints Try.underlying32 Try.underlying72 (by kernel_rfl) R_i_3
  refine (walk_inputs _ _ _ _ z_i0 z_i12 z_i13 z_i14 m_i0 m_i12 m_i13 m_i14 i1 i2 i3 i4 i5 i6 i7 i8 i9 i10 i11 W L_i0 L_i12 L_i13 L_i14).mono fun e W' ⟨he, hb⟩ => ?_
  subst he
  exact ⟨_, rfl, law_post (by kernel_rfl) (by kernel_rfl) Try.underlying4 readable rfl hW' hb (fun h => by subst h; rfl)⟩

theorem over : Rows.confInputsRow.holds Try.pinned (OpenSpec.ofChange Rows.confInputsSpec) :=
  OpenClaim.holds_of_wide 4 Try.f4 rfl rfl rfl rfl rfl rfl rfl ⟨rfl, rfl, rfl, rfl, rfl⟩ rfl rfl rfl rfl rfl (by kernel_rfl) Try.func4 (by kernel_rfl)
    (of_decide_eq_true (by kernel_rfl)) (by unfold Func.isWrapper; first | (rw [if_pos (by decide +kernel)]; kernel_rfl) | (rw [if_neg (by decide +kernel)]; exact ⟨rfl, rfl⟩))
    (fun os started H enc _ => lifted os started H enc)

theorem proved : Rows.ConfInputsSaid := over
#print axioms proved
end Go.Proofs.Ytolmdhhbhohndaa.confInputs
