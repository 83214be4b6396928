/- For every configuration and every int the law ConfNeeds returns true. No condition. -/
import Derived.Test.YtolmdhhbhohndaaCnfE
import Derived.Test.YtolmdhhbhohndaaAgg
import Derived.Test.YtolmdhhbhohndaaArr
import Derived.Test.YtolmdhhbhohndaaLaw
namespace Go.Proofs.Ytolmdhhbhohndaa.confNeeds
open Go.ChangeShapes Go.WideShapes Go.ChangeAt Go.RowKit
set_option linter.unusedVariables false

theorem own : ownKnob Try.prog.godebug = none := by kernel_rfl

theorem readable : ∀ t ∈ Try.f5.params.toList, Try.prog.readableRec t = true ∧ t < Try.prog.types.size := by
  have h : (Try.f5.params.toList.all fun t => Try.prog.readableRec t && decide (t < Try.prog.types.size)) = true := by kernel_rfl
  intro t ht
  have h1 := List.all_eq_true.1 h t ht
  rw [Bool.and_eq_true] at h1
  exact ⟨h1.1, of_decide_eq_true h1.2⟩

set_option maxRecDepth 100000 in
theorem lifted (os : Os) (started : os.Started) (H : Type) (enc : TypeId × Value → H) :
    ReturnsInHanded {} Try.checked os 5 .any (Rows.confNeedsSpec.pre6 enc Try.prog Try.f5 Rows.confNeedsRow.domain false) (Rows.confNeedsSpec.post enc Try.prog Try.f5 false true false false) := by
  refine returnsInHanded_of_change (C := Try.checked) own started (by kernel_rfl) Try.func5
    (ChangeSpec.witness6 (enc := enc) (C := Try.checked) false ⟨#[], #[.agg #[.slice none 0 0, .int .i64 0, .int .i64 0, .int .i64 0, .int .i64 0, .int .i64 0, .int .i64 0, .int .i64 0, .int .i64 0, .int .i64 0, .int .i64 0, .int .i64 0], .int .i64 0], []⟩ 8 (by kernel_rfl) (by kernel_rfl) (by kernel_rfl) (by kernel_rfl)) ?_
  intro W base args ds gs before hval0 hW hcnd _
  have hval : ∀ (j : Nat) t v, Try.f5.params[j]? = some t → args[j]? = some v → Value.okWide Try.prog W .any base t v := hval0
  have hW' := hW
  obtain ⟨p, q, hA0, hV, hpq, hfz, hnd⟩ := hW
  have hA : DataW.TrodAll enc Try.prog W 0 (fun _ => true) true Try.f5.params.toList args.toList ds p := hA0
  rw [Try.params5] at hA hval
  obtain ⟨v0, vs0, d0, ds0, p0, q0, hargs, rfl, rfl, h0, r0⟩ := trodAll_cons hA
  obtain ⟨v1, vs1, d1, ds1, p1, q1, rfl, rfl, rfl, h1, r1⟩ := trodAll_cons r0
  obtain ⟨rfl, rfl, rfl⟩ := trodAll_nil r1
  obtain rfl : args = #[v0, v1] := by cases args; simp_all
  clear hA0 hval0
  obtain ⟨cs_c, rfl, sz_c⟩ := agg_value Try.underlying24 (by kernel_rfl) (hval 0 24 v0 rfl rfl)
  obtain ⟨c0, c1, c2, c3, c4, c5, c6, c7, c8, c9, c10, c11, rfl⟩ := array12 sz_c
  have R_c := reads_arg h0
  have R_c_0 := reads_field (k := 1) (cs' := [c0]) Try.underlying24 R_c 0 _ rfl rfl rfl (by kernel_rfl) rfl
  have R_c_1 := reads_field (k := 1) (cs' := [c1]) Try.underlying24 R_c 1 _ rfl rfl rfl (by kernel_rfl) rfl
  have R_c_2 := reads_field (k := 1) (cs' := [c2]) Try.underlying24 R_c 2 _ rfl rfl rfl (by kernel_rfl) rfl
  have R_c_3 := reads_field (k := 1) (cs' := [c3]) Try.underlying24 R_c 3 _ rfl rfl rfl (by kernel_rfl) rfl
  have R_c_4 := reads_field (k := 1) (cs' := [c4]) Try.underlying24 R_c 4 _ rfl rfl rfl (by kernel_rfl) rfl
  have R_c_5 := reads_field (k := 1) (cs' := [c5]) Try.underlying24 R_c 5 _ rfl rfl rfl (by kernel_rfl) rfl
  have R_c_6 := reads_field (k := 1) (cs' := [c6]) Try.underlying24 R_c 6 _ rfl rfl rfl (by kernel_rfl) rfl
  have R_c_7 := reads_field (k := 1) (cs' := [c7]) Try.underlying24 R_c 7 _ rfl rfl rfl (by kernel_rfl) rfl
  have R_c_8 := reads_field (k := 1) (cs' := [c8]) Try.underlying24 R_c 8 _ rfl rfl rfl (by kernel_rfl) rfl
  have R_c_9 := reads_field (k := 1) (cs' := [c9]) Try.underlying24 R_c 9 _ rfl rfl rfl (by kernel_rfl) rfl
  have R_c_10 := reads_field (k := 1) (cs' := [c10]) Try.underlying24 R_c 10 _ rfl rfl rfl (by kernel_rfl) rfl
  have R_c_11 := reads_field (k := 1) (cs' := [c11]) Try.underlying24 R_c 11 _ rfl rfl rfl (by kernel_rfl) rfl
  obtain ⟨z_c0, L_c0, wf_c0, m_c0⟩ := reads_ints Try.underlying22 Try.underlying3 (by kernel_rfl) R_c_0
  obtain ⟨c1, rfl, wf_c1⟩ := reads_int Try.underlying3 R_c_1
  have w_c1 := wf_i64 wf_c1
  obtain ⟨c2, rfl, wf_c2⟩ := reads_int Try.underlying2 R_c_2
  have w_c2 := wf_i64 wf_c2
  obtain ⟨c3, rfl, wf_c3⟩ := reads_int Try.underlying2 R_c_3
  have w_c3 := wf_i64 wf_c3
  obtain ⟨c4, rfl, wf_c4⟩ := reads_int Try.underlying3 R_c_4
  have w_c4 := wf_i64 wf_c4
  obtain ⟨c5, rfl, wf_c5⟩ := reads_int Try.underlying3 R_c_5
  have w_c5 := wf_i64 wf_c5
  obtain ⟨c6, rfl, wf_c6⟩ := reads_int Try.underlying3 R_c_6
  have w_c6 := wf_i64 wf_c6
  obtain ⟨c7, rfl, wf_c7⟩ := reads_int Try.underlying3 R_c_7
  have w_c7 := wf_i64 wf_c7
  obtain ⟨c8, rfl, wf_c8⟩ := reads_int Try.underlying3 R_c_8
  have w_c8 := wf_i64 wf_c8
  obtain ⟨c9, rfl, wf_c9⟩ := reads_int Try.underlying3 R_c_9
  have w_c9 := wf_i64 wf_c9
  obtain ⟨c10, rfl, wf_c10⟩ := reads_int Try.underlying3 R_c_10
  have w_c10 := wf_i64 wf_c10
  obtain ⟨c11, rfl, wf_c11⟩ := reads_int Try.underlying3 R_c_11
  have w_c11 := wf_i64 wf_c11
  obtain ⟨n, rfl, rfl, rfl, wf1⟩ := open_int Try.underlying3 (hval 1 3 v1 rfl rfl) h1
  have w_n := wf_i64 wf1
  refine (walk_needs _ z_c0 m_c0 c1 c2 c3 c4 c5 c6 c7 c8 c9 c10 c11 n w_n W L_c0).mono fun e W' ⟨he, hb⟩ => ?_
  subst he
  exact ⟨_, rfl, law_post (by kernel_rfl) (by kernel_rfl) Try.underlying4 readable rfl hW' hb (fun h => by subst h; rfl)⟩

theorem over : Rows.confNeedsRow.holds Try.pinned (OpenSpec.ofChange Rows.confNeedsSpec) :=
  OpenClaim.holds_of_wide 5 Try.f5 rfl rfl rfl rfl rfl rfl rfl ⟨rfl, rfl, rfl, rfl, rfl⟩ rfl rfl rfl rfl rfl (by kernel_rfl) Try.func5 (by kernel_rfl)
    (of_decide_eq_true (by kernel_rfl)) (by unfold Func.isWrapper; first | (rw [if_pos (by decide +kernel)]; kernel_rfl) | (rw [if_neg (by decide +kernel)]; exact ⟨rfl, rfl⟩))
    (fun os started H enc _ => lifted os started H enc)

theorem proved : Rows.ConfNeedsSaid := over
#print axioms proved
end Go.Proofs.Ytolmdhhbhohndaa.confNeeds
