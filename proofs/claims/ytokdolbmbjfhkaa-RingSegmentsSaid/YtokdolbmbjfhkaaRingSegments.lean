/- For every job, every three ints and every bool the law RingSegments returns true. No condition. -/
import Derived.Test.YtokdolbmbjfhkaaRingW
import Derived.Test.YtokdolbmbjfhkaaAgg
import Derived.Test.YtokdolbmbjfhkaaLaw
namespace Go.Proofs.Ytokdolbmbjfhkaa.ringSegments
open Go.ChangeShapes Go.WideShapes Go.ChangeAt Go.RowKit
set_option linter.unusedVariables false

theorem own : ownKnob Try.prog.godebug = none := by kernel_rfl

theorem readable : ∀ t ∈ Try.f3.params.toList, Try.prog.readableRec t = true ∧ t < Try.prog.types.size := by
  have h : (Try.f3.params.toList.all fun t => Try.prog.readableRec t && decide (t < Try.prog.types.size)) = true := by kernel_rfl
  intro t ht
  have h1 := List.all_eq_true.1 h t ht
  rw [Bool.and_eq_true] at h1
  exact ⟨h1.1, of_decide_eq_true h1.2⟩

set_option maxRecDepth 100000 in
theorem lifted (os : Os) (started : os.Started) (H : Type) (enc : TypeId × Value → H) :
    ReturnsInHanded {} Try.checked os 3 .any (Rows.ringSegmentsSpec.pre6 enc Try.prog Try.f3 Rows.ringSegmentsRow.domain false) (Rows.ringSegmentsSpec.post enc Try.prog Try.f3 false true false false) := by
  refine returnsInHanded_of_change (C := Try.checked) own started (by kernel_rfl) Try.func3
    (ChangeSpec.witness6 (enc := enc) (C := Try.checked) false ⟨#[], #[.agg #[.int .i64 0, .int .i64 0, .int .i64 0, .int .i64 0, .int .i64 0, .int .i64 0], .agg #[.int .i64 0, .int .i64 0, .int .i64 0], .bool false], []⟩ 8 (by kernel_rfl) (by kernel_rfl) (by kernel_rfl) (by kernel_rfl)) ?_
  intro W base args ds gs before hval0 hW hcnd _
  have hval : ∀ (j : Nat) t v, Try.f3.params[j]? = some t → args[j]? = some v → Value.okWide Try.prog W .any base t v := hval0
  have hW' := hW
  obtain ⟨p, q, hA0, hV, hpq, hfz, hnd⟩ := hW
  have hA : DataW.TrodAll enc Try.prog W 0 (fun _ => true) true Try.f3.params.toList args.toList ds p := hA0
  rw [Try.params3] at hA hval
  obtain ⟨v0, vs0, d0, ds0, p0, q0, hargs, rfl, rfl, h0, r0⟩ := trodAll_cons hA
  obtain ⟨v1, vs1, d1, ds1, p1, q1, rfl, rfl, rfl, h1, r1⟩ := trodAll_cons r0
  obtain ⟨v2, vs2, d2, ds2, p2, q2, rfl, rfl, rfl, h2, r2⟩ := trodAll_cons r1
  obtain ⟨rfl, rfl, rfl⟩ := trodAll_nil r2
  obtain rfl : args = #[v0, v1, v2] := by cases args; simp_all
  clear hA0 hval0
  obtain ⟨cs_j, rfl, sz_j⟩ := agg_value Try.underlying25 (by kernel_rfl) (hval 0 25 v0 rfl rfl)
  obtain ⟨j0, j1, j2, j3, j4, j5, rfl⟩ := array6 sz_j
  have R_j := reads_arg h0
  have R_j_0 := reads_field (k := 1) (cs' := [j0]) Try.underlying25 R_j 0 _ rfl rfl rfl (by kernel_rfl) rfl
  have R_j_1 := reads_field (k := 1) (cs' := [j1]) Try.underlying25 R_j 1 _ rfl rfl rfl (by kernel_rfl) rfl
  have R_j_2 := reads_field (k := 2) (cs' := [j2, j3]) Try.underlying25 R_j 2 _ rfl rfl rfl (by kernel_rfl) rfl
  have R_j_2_0 := reads_field (k := 1) (cs' := [j2]) Try.underlying23 R_j_2 0 _ rfl rfl rfl (by kernel_rfl) rfl
  have R_j_2_1 := reads_field (k := 1) (cs' := [j3]) Try.underlying23 R_j_2 1 _ rfl rfl rfl (by kernel_rfl) rfl
  have R_j_3 := reads_field (k := 1) (cs' := [j4]) Try.underlying25 R_j 3 _ rfl rfl rfl (by kernel_rfl) rfl
  have R_j_4 := reads_field (k := 1) (cs' := [j5]) Try.underlying25 R_j 4 _ rfl rfl rfl (by kernel_rfl) rfl
  obtain ⟨j0, rfl, wf_j0⟩ := reads_int Try.underlying3 R_j_0
  have w_j0 := wf_i64 wf_j0
  obtain ⟨j1, rfl, wf_j1⟩ := reads_int Try.underlying3 R_j_1
  have w_j1 := wf_i64 wf_j1
  obtain ⟨j2, rfl, wf_j2⟩ := reads_int Try.underlying3 R_j_2_0
  have w_j2 := wf_i64 wf_j2
  obtain ⟨j3, rfl, wf_j3⟩ := reads_int Try.underlying3 R_j_2_1
  have w_j3 := wf_i64 wf_j3
  obtain ⟨j4, rfl, wf_j4⟩ := reads_int Try.underlying3 R_j_3
  have w_j4 := wf_i64 wf_j4
  obtain ⟨j5, rfl, wf_j5⟩ := reads_int Try.underlying3 R_j_4
  have w_j5 := wf_i64 wf_j5
  obtain ⟨cs_m, rfl, sz_m⟩ := arr_value Try.underlying26 (by kernel_rfl) (hval 1 26 v1 rfl rfl)
  obtain ⟨m0, m1, m2, rfl⟩ := Go.Joins.array3 sz_m
  have R_m := reads_arg h1
  have R_m_0 := reads_elem (k := 1) (cs' := [m0]) Try.underlying26 R_m 0 (by decide) (by kernel_rfl) rfl
  have R_m_1 := reads_elem (k := 1) (cs' := [m1]) Try.underlying26 R_m 1 (by decide) (by kernel_rfl) rfl
  have R_m_2 := reads_elem (k := 1) (cs' := [m2]) Try.underlying26 R_m 2 (by decide) (by kernel_rfl) rfl
  obtain ⟨m0, rfl, wf_m0⟩ := reads_int Try.underlying3 R_m_0
  have w_m0 := wf_i64 wf_m0
  obtain ⟨m1, rfl, wf_m1⟩ := reads_int Try.underlying3 R_m_1
  have w_m1 := wf_i64 wf_m1
  obtain ⟨m2, rfl, wf_m2⟩ := reads_int Try.underlying3 R_m_2
  have w_m2 := wf_i64 wf_m2
  obtain ⟨send, rfl⟩ : ∃ b, v2 = .bool b := by
    obtain ⟨fu, hfu⟩ := h2
    have hfu' : Reads enc Try.prog W 4 v2.cells.toList := ⟨fu, _, hfu⟩
    obtain ⟨b, rfl⟩ := okWide_bool Try.underlying4 (hval 2 4 v2 rfl rfl)
    exact ⟨_, rfl⟩
  refine (walk_segments j0 j1 j2 j3 j4 j5 m0 m1 m2 send W).mono fun e W' ⟨he, hb⟩ => ?_
  subst he
  exact ⟨_, rfl, law_post (by kernel_rfl) (by kernel_rfl) Try.underlying4 readable rfl hW' hb (fun h => by subst h; rfl)⟩

theorem over : Rows.ringSegmentsRow.holds Try.pinned (OpenSpec.ofChange Rows.ringSegmentsSpec) :=
  OpenClaim.holds_of_wide 3 Try.f3 rfl rfl rfl rfl rfl rfl rfl ⟨rfl, rfl, rfl, rfl, rfl⟩ rfl rfl rfl rfl rfl (by kernel_rfl) Try.func3 (by kernel_rfl)
    (of_decide_eq_true (by kernel_rfl)) (by unfold Func.isWrapper; first | (rw [if_pos (by decide +kernel)]; kernel_rfl) | (rw [if_neg (by decide +kernel)]; exact ⟨rfl, rfl⟩))
    (fun os started H enc _ => lifted os started H enc)

theorem proved : Rows.RingSegmentsSaid := over
#print axioms proved
end Go.Proofs.Ytokdolbmbjfhkaa.ringSegments
