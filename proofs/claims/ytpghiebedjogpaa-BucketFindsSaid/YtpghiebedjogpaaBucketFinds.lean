/- For every int and every array of four int the law BucketFinds returns true. No condition. -/
import Derived.Test.YtpghiebedjogpaaFndC
import Derived.Test.YtpghiebedjogpaaLaw
namespace Go.Proofs.Ytpghiebedjogpaa.bucketFinds
open Go.ChangeShapes Go.WideShapes Go.ChangeAt Go.RowKit
set_option linter.unusedVariables false

theorem own : ownKnob Try.prog.godebug = none := by kernel_rfl

theorem readable : ∀ t ∈ Try.f6.params.toList, Try.prog.readableRec t = true ∧ t < Try.prog.types.size := by
  have h : (Try.f6.params.toList.all fun t => Try.prog.readableRec t && decide (t < Try.prog.types.size)) = true := by kernel_rfl
  intro t ht
  have h1 := List.all_eq_true.1 h t ht
  rw [Bool.and_eq_true] at h1
  exact ⟨h1.1, of_decide_eq_true h1.2⟩

set_option maxRecDepth 100000 in
theorem lifted (os : Os) (started : os.Started) (H : Type) (enc : TypeId × Value → H) :
    ReturnsInHanded {} Try.checked os 6 .any (Rows.bucketFindsSpec.pre6 enc Try.prog Try.f6 Rows.bucketFindsRow.domain false) (Rows.bucketFindsSpec.post enc Try.prog Try.f6 false true false false) := by
  refine returnsInHanded_of_change (C := Try.checked) own started (by kernel_rfl) Try.func6
    (ChangeSpec.witness6 (enc := enc) (C := Try.checked) false ⟨#[], #[.int .i64 0, .agg #[.int .i64 0, .int .i64 0, .int .i64 0, .int .i64 0]], []⟩ 8 (by kernel_rfl) (by kernel_rfl) (by kernel_rfl) (by kernel_rfl)) ?_
  intro W base args ds gs before hval0 hW hcnd _
  have hval : ∀ (j : Nat) t v, Try.f6.params[j]? = some t → args[j]? = some v → Value.okWide Try.prog W .any base t v := hval0
  have hW' := hW
  obtain ⟨p, q, hA0, hV, hpq, hfz, hnd⟩ := hW
  have hA : DataW.TrodAll enc Try.prog W 0 (fun _ => true) true Try.f6.params.toList args.toList ds p := hA0
  rw [Try.params6] at hA hval
  obtain ⟨v0, vs0, d0, ds0, p0, q0, hargs, rfl, rfl, h0, r0⟩ := trodAll_cons hA
  obtain ⟨v1, vs1, d1, ds1, p1, q1, rfl, rfl, rfl, h1, r1⟩ := trodAll_cons r0
  obtain ⟨rfl, rfl, rfl⟩ := trodAll_nil r1
  obtain rfl : args = #[v0, v1] := by cases args; simp_all
  clear hA0 hval0
  obtain ⟨i, rfl, rfl, rfl, wf0⟩ := open_int Try.underlying3 (hval 0 3 v0 rfl rfl) h0
  have w_i := wf_i64 wf0
  obtain ⟨cs_numbers, rfl, sz_numbers⟩ := arr_value Try.underlying41 (by kernel_rfl) (hval 1 41 v1 rfl rfl)
  obtain ⟨numbers0, numbers1, numbers2, numbers3, rfl⟩ := Go.Joins.array4 sz_numbers
  have R_numbers := reads_arg h1
  have R_numbers_0 := reads_elem (k := 1) (cs' := [numbers0]) Try.underlying41 R_numbers 0 (by decide) (by kernel_rfl) rfl
  have R_numbers_1 := reads_elem (k := 1) (cs' := [numbers1]) Try.underlying41 R_numbers 1 (by decide) (by kernel_rfl) rfl
  have R_numbers_2 := reads_elem (k := 1) (cs' := [numbers2]) Try.underlying41 R_numbers 2 (by decide) (by kernel_rfl) rfl
  have R_numbers_3 := reads_elem (k := 1) (cs' := [numbers3]) Try.underlying41 R_numbers 3 (by decide) (by kernel_rfl) rfl
  obtain ⟨numbers0, rfl, wf_numbers0⟩ := reads_int Try.underlying3 R_numbers_0
  have w_numbers0 := wf_i64 wf_numbers0
  obtain ⟨numbers1, rfl, wf_numbers1⟩ := reads_int Try.underlying3 R_numbers_1
  have w_numbers1 := wf_i64 wf_numbers1
  obtain ⟨numbers2, rfl, wf_numbers2⟩ := reads_int Try.underlying3 R_numbers_2
  have w_numbers2 := wf_i64 wf_numbers2
  obtain ⟨numbers3, rfl, wf_numbers3⟩ := reads_int Try.underlying3 R_numbers_3
  have w_numbers3 := wf_i64 wf_numbers3
  refine (walk_finds i numbers0 numbers1 numbers2 numbers3 w_i w_numbers0 w_numbers1 w_numbers2 w_numbers3 W).mono fun e W' ⟨he, hb⟩ => ?_
  subst he
  exact ⟨_, rfl, law_post (by kernel_rfl) (by kernel_rfl) Try.underlying4 readable rfl hW' hb (fun h => by subst h; rfl)⟩

theorem over : Rows.bucketFindsRow.holds Try.pinned (OpenSpec.ofChange Rows.bucketFindsSpec) :=
  OpenClaim.holds_of_wide 6 Try.f6 rfl rfl rfl rfl rfl rfl rfl ⟨rfl, rfl, rfl, rfl, rfl⟩ rfl rfl rfl rfl rfl (by kernel_rfl) Try.func6 (by kernel_rfl)
    (of_decide_eq_true (by kernel_rfl)) (by unfold Func.isWrapper; first | (rw [if_pos (by decide +kernel)]; kernel_rfl) | (rw [if_neg (by decide +kernel)]; exact ⟨rfl, rfl⟩))
    (fun os started H enc _ => lifted os started H enc)

theorem proved : Rows.BucketFindsSaid := over
#print axioms proved
end Go.Proofs.Ytpghiebedjogpaa.bucketFinds
