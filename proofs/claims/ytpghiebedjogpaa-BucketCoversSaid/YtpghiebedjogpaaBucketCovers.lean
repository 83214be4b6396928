/- For every uint8 and every array of three uint8 the law BucketCovers returns true. No condition. -/
import Derived.Test.YtpghiebedjogpaaCovA
import Derived.Test.YtpghiebedjogpaaAgg
import Derived.Test.YtpghiebedjogpaaLaw
namespace Go.Proofs.Ytpghiebedjogpaa.bucketCovers
open Go.ChangeShapes Go.WideShapes Go.ChangeAt Go.RowKit
set_option linter.unusedVariables false

theorem own : ownKnob Try.prog.godebug = none := by kernel_rfl

theorem readable : ∀ t ∈ Try.f7.params.toList, Try.prog.readableRec t = true ∧ t < Try.prog.types.size := by
  have h : (Try.f7.params.toList.all fun t => Try.prog.readableRec t && decide (t < Try.prog.types.size)) = true := by kernel_rfl
  intro t ht
  have h1 := List.all_eq_true.1 h t ht
  rw [Bool.and_eq_true] at h1
  exact ⟨h1.1, of_decide_eq_true h1.2⟩

set_option maxRecDepth 100000 in
theorem lifted (os : Os) (started : os.Started) (H : Type) (enc : TypeId × Value → H) :
    ReturnsInHanded {} Try.checked os 7 .any (Rows.bucketCoversSpec.pre6 enc Try.prog Try.f7 Rows.bucketCoversRow.domain false) (Rows.bucketCoversSpec.post enc Try.prog Try.f7 false true false false) := by
  refine returnsInHanded_of_change (C := Try.checked) own started (by kernel_rfl) Try.func7
    (ChangeSpec.witness6 (enc := enc) (C := Try.checked) false ⟨#[], #[.int .u8 0, .agg #[.int .u8 0, .int .u8 0, .int .u8 0]], []⟩ 8 (by kernel_rfl) (by kernel_rfl) (by kernel_rfl) (by kernel_rfl)) ?_
  intro W base args ds gs before hval0 hW hcnd _
  have hval : ∀ (j : Nat) t v, Try.f7.params[j]? = some t → args[j]? = some v → Value.okWide Try.prog W .any base t v := hval0
  have hW' := hW
  obtain ⟨p, q, hA0, hV, hpq, hfz, hnd⟩ := hW
  have hA : DataW.TrodAll enc Try.prog W 0 (fun _ => true) true Try.f7.params.toList args.toList ds p := hA0
  rw [Try.params7] at hA hval
  obtain ⟨v0, vs0, d0, ds0, p0, q0, hargs, rfl, rfl, h0, r0⟩ := trodAll_cons hA
  obtain ⟨v1, vs1, d1, ds1, p1, q1, rfl, rfl, rfl, h1, r1⟩ := trodAll_cons r0
  obtain ⟨rfl, rfl, rfl⟩ := trodAll_nil r1
  obtain rfl : args = #[v0, v1] := by cases args; simp_all
  clear hA0 hval0
  obtain ⟨n, rfl, rfl, rfl, wf0⟩ := open_int Try.underlying5 (hval 0 5 v0 rfl rfl) h0
  have w_n := wf_u8 wf0
  obtain ⟨cs_sizes, rfl, sz_sizes⟩ := arr_value Try.underlying50 (by kernel_rfl) (hval 1 50 v1 rfl rfl)
  obtain ⟨sizes0, sizes1, sizes2, rfl⟩ := Go.Joins.array3 sz_sizes
  have R_sizes := reads_arg h1
  have R_sizes_0 := reads_elem (k := 1) (cs' := [sizes0]) Try.underlying50 R_sizes 0 (by decide) (by kernel_rfl) rfl
  have R_sizes_1 := reads_elem (k := 1) (cs' := [sizes1]) Try.underlying50 R_sizes 1 (by decide) (by kernel_rfl) rfl
  have R_sizes_2 := reads_elem (k := 1) (cs' := [sizes2]) Try.underlying50 R_sizes 2 (by decide) (by kernel_rfl) rfl
  obtain ⟨sizes0, rfl, wf_sizes0⟩ := reads_int Try.underlying5 R_sizes_0
  have w_sizes0 := wf_u8 wf_sizes0
  obtain ⟨sizes1, rfl, wf_sizes1⟩ := reads_int Try.underlying5 R_sizes_1
  have w_sizes1 := wf_u8 wf_sizes1
  obtain ⟨sizes2, rfl, wf_sizes2⟩ := reads_int Try.underlying5 R_sizes_2
  have w_sizes2 := wf_u8 wf_sizes2
  refine (walk_covers n sizes0 sizes1 sizes2 w_n w_sizes0 w_sizes1 w_sizes2 W).mono fun e W' ⟨he, hb⟩ => ?_
  subst he
  exact ⟨_, rfl, law_post (by kernel_rfl) (by kernel_rfl) Try.underlying4 readable rfl hW' hb (fun h => by subst h; rfl)⟩

theorem over : Rows.bucketCoversRow.holds Try.pinned (OpenSpec.ofChange Rows.bucketCoversSpec) :=
  OpenClaim.holds_of_wide 7 Try.f7 rfl rfl rfl rfl rfl rfl rfl ⟨rfl, rfl, rfl, rfl, rfl⟩ rfl rfl rfl rfl rfl (by kernel_rfl) Try.func7 (by kernel_rfl)
    (of_decide_eq_true (by kernel_rfl)) (by unfold Func.isWrapper; first | (rw [if_pos (by decide +kernel)]; kernel_rfl) | (rw [if_neg (by decide +kernel)]; exact ⟨rfl, rfl⟩))
    (fun os started H enc _ => lifted os started H enc)

theorem proved : Rows.BucketCoversSaid := over
#print axioms proved
end Go.Proofs.Ytpghiebedjogpaa.bucketCovers
