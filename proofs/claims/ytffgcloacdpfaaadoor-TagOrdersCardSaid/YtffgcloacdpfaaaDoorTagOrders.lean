/- For every two tags and every int the law TagOrders returns true. No condition. -/
import Derived.Test.YtffgcloacdpfaaaDoorTie
import Derived.Test.YtffgcloacdpfaaaDoorCards
import Derived.LaidLaws
import Derived.LaidHandle
import Derived.SevenTiedAt
import Derived.Test.YtffgcloacdpfaaaDoorTagOz
import Derived.Test.YtffgcloacdpfaaaDoorAgg
import Derived.Test.YtffgcloacdpfaaaDoorLaw
namespace Go.Proofs.YtffgcloacdpfaaaDoor.tagOrders
open Go.ChangeShapes Go.WideShapes Go.ChangeAt Go.RowKit
set_option linter.unusedVariables false

/-- the cells of a laid table of integers -/
def tabCells : DataW Unit → Array Value
  | .agg l => (l.map fun | .lit (.int k a) => Value.int k a | _ => undef).toArray
  | _ => #[]
def layTab (h : Array Obj) (g : Nat) (d : DataW Unit) : Array Obj := h.modify g fun
  | .cells _ t frozen => .cells (tabCells d) t frozen
  | o => o
/-- a world in which the tables lie as the program's text lays them -/
noncomputable def laidWorld (os : Os) : World :=
  let w0 := World.holding Tryd.prog os ⟨#[], #[], []⟩
  { w0 with heap := (layTab (layTab (layTab w0.heap 4 Rows.laid_math_bits_deBruijn32tab) 5 Rows.laid_math_bits_deBruijn64tab) 0 Rows.laid_internal_strconv_uint64pow10) }
theorem laidWorld_met (os : Os) (args : Array Value) : laidMetH Tryd.prog Rows.tagOrdersRow.laid ((laidWorld os).forCall (fun _ _ => 0) ⟨#[], args, []⟩).memory :=
  laidMetH_of_parts (laidMet_of_run' 70 (by kernel_rfl) (by kernel_rfl)) (by kernel_rfl)
theorem own : ownKnob Tryd.prog.godebug = none := by kernel_rfl

theorem readable : ∀ t ∈ Tryd.f7.params.toList, Tryd.prog.readableRec t = true ∧ t < Tryd.prog.types.size := by
  have h : (Tryd.f7.params.toList.all fun t => Tryd.prog.readableRec t && decide (t < Tryd.prog.types.size)) = true := by kernel_rfl
  intro t ht
  have h1 := List.all_eq_true.1 h t ht
  rw [Bool.and_eq_true] at h1
  exact ⟨h1.1, of_decide_eq_true h1.2⟩

set_option maxRecDepth 100000 in
theorem lifted (os : Os) (started : os.Started) (H : Type) (enc : TypeId × Value → H) :
    ReturnsInHanded {} Tryd.checked os 7 .any (fun w args => (Rows.tagOrdersSpec.pre enc Tryd.prog Tryd.f7 [] false w args ∧ laidMetH Tryd.prog Rows.tagOrdersRow.laid w) ∧ sizedMet enc Tryd.prog Tryd.f7 (OpenSpec.ofChange Rows.tagOrdersSpec) false w args)
      (Rows.tagOrdersSpec.post enc Tryd.prog Tryd.f7 false true false false) := by
  refine returnsInHanded_of_change_and (C := Tryd.checked) (X := fun w _ => laidMetH Tryd.prog Rows.tagOrdersRow.laid w) (fun _ _ _ hh h => h.of_heap hh) own started (by kernel_rfl) Tryd.func7
    (ChangeSpec.witness_at (enc := enc) (C := Tryd.checked) (os := os) (X := fun w _ => laidMetH Tryd.prog Rows.tagOrdersRow.laid w) false (laidWorld os) #[.agg #[.int .i64 0, .int .i64 0, .int .i64 0, .int .i64 0, .int .i64 0], .agg #[.int .i64 0, .int .i64 0, .int .i64 0, .int .i64 0, .int .i64 0], .int .i64 0] 8 rfl (by kernel_rfl) (by kernel_rfl) (by kernel_rfl) (by kernel_rfl) (by kernel_rfl) (laidWorld_met os _)) ?_
  intro W base args ds gs before hval0 hW hcnd _ hL _
  have hval : ∀ (j : Nat) t v, Tryd.f7.params[j]? = some t → args[j]? = some v → Value.okWide Tryd.prog W .any base t v := hval0
  have hW' := hW
  obtain ⟨p, q, hA0, hV, hpq, hfz, hnd⟩ := hW
  have hA : DataW.TrodAll enc Tryd.prog W 0 (fun _ => true) true Tryd.f7.params.toList args.toList ds p := hA0
  rw [Tryd.params7] at hA hval
  obtain ⟨v0, vs0, d0, ds0, p0, q0, hargs, rfl, rfl, h0, r0⟩ := trodAll_cons hA
  obtain ⟨v1, vs1, d1, ds1, p1, q1, rfl, rfl, rfl, h1, r1⟩ := trodAll_cons r0
  obtain ⟨v2, vs2, d2, ds2, p2, q2, rfl, rfl, rfl, h2, r2⟩ := trodAll_cons r1
  obtain ⟨rfl, rfl, rfl⟩ := trodAll_nil r2
  obtain rfl : args = #[v0, v1, v2] := by cases args; simp_all
  clear hA0 hval0
  obtain ⟨cs_x, rfl, sz_x⟩ := agg_value Tryd.underlying23 (by kernel_rfl) (hval 0 23 v0 rfl rfl)
  obtain ⟨x0, x1, x2, x3, x4, rfl⟩ := array5 sz_x
  have R_x := reads_arg h0
  have R_x_0 := reads_field (k := 1) (cs' := [x0]) Tryd.underlying23 R_x 0 _ rfl rfl rfl (by kernel_rfl) rfl
  have R_x_1 := reads_field (k := 1) (cs' := [x1]) Tryd.underlying23 R_x 1 _ rfl rfl rfl (by kernel_rfl) rfl
  have R_x_2 := reads_field (k := 1) (cs' := [x2]) Tryd.underlying23 R_x 2 _ rfl rfl rfl (by kernel_rfl) rfl
  have R_x_3 := reads_field (k := 1) (cs' := [x3]) Tryd.underlying23 R_x 3 _ rfl rfl rfl (by kernel_rfl) rfl
  have R_x_4 := reads_field (k := 1) (cs' := [x4]) Tryd.underlying23 R_x 4 _ rfl rfl rfl (by kernel_rfl) rfl
  obtain ⟨x0, rfl, wf_x0⟩ := reads_int Tryd.underlying3 R_x_0
  have w_x0 := wf_i64 wf_x0
  obtain ⟨x1, rfl, wf_x1⟩ := reads_int Tryd.underlying3 R_x_1
  have w_x1 := wf_i64 wf_x1
  obtain ⟨x2, rfl, wf_x2⟩ := reads_int Tryd.underlying3 R_x_2
  have w_x2 := wf_i64 wf_x2
  obtain ⟨x3, rfl, wf_x3⟩ := reads_int Tryd.underlying3 R_x_3
  have w_x3 := wf_i64 wf_x3
  obtain ⟨x4, rfl, wf_x4⟩ := reads_int Tryd.underlying3 R_x_4
  have w_x4 := wf_i64 wf_x4
  obtain ⟨cs_y, rfl, sz_y⟩ := agg_value Tryd.underlying23 (by kernel_rfl) (hval 1 23 v1 rfl rfl)
  obtain ⟨y0, y1, y2, y3, y4, rfl⟩ := array5 sz_y
  have R_y := reads_arg h1
  have R_y_0 := reads_field (k := 1) (cs' := [y0]) Tryd.underlying23 R_y 0 _ rfl rfl rfl (by kernel_rfl) rfl
  have R_y_1 := reads_field (k := 1) (cs' := [y1]) Tryd.underlying23 R_y 1 _ rfl rfl rfl (by kernel_rfl) rfl
  have R_y_2 := reads_field (k := 1) (cs' := [y2]) Tryd.underlying23 R_y 2 _ rfl rfl rfl (by kernel_rfl) rfl
  have R_y_3 := reads_field (k := 1) (cs' := [y3]) Tryd.underlying23 R_y 3 _ rfl rfl rfl (by kernel_rfl) rfl
  have R_y_4 := reads_field (k := 1) (cs' := [y4]) Tryd.underlying23 R_y 4 _ rfl rfl rfl (by kernel_rfl) rfl
  obtain ⟨y0, rfl, wf_y0⟩ := reads_int Tryd.underlying3 R_y_0
  have w_y0 := wf_i64 wf_y0
  obtain ⟨y1, rfl, wf_y1⟩ := reads_int Tryd.underlying3 R_y_1
  have w_y1 := wf_i64 wf_y1
  obtain ⟨y2, rfl, wf_y2⟩ := reads_int Tryd.underlying3 R_y_2
  have w_y2 := wf_i64 wf_y2
  obtain ⟨y3, rfl, wf_y3⟩ := reads_int Tryd.underlying3 R_y_3
  have w_y3 := wf_i64 wf_y3
  obtain ⟨y4, rfl, wf_y4⟩ := reads_int Tryd.underlying3 R_y_4
  have w_y4 := wf_i64 wf_y4
  obtain ⟨phase, rfl, rfl, rfl, wf2⟩ := open_int Tryd.underlying3 (hval 2 3 v2 rfl rfl) h2
  have w_phase := wf_i64 wf2
  refine (walk_orders x0 x1 x2 x3 x4 y0 y1 y2 y3 y4 phase W hL).mono fun e W' ⟨he, hb⟩ => ?_
  subst he
  exact ⟨_, rfl, law_post (by kernel_rfl) (by kernel_rfl) Tryd.underlying4 readable rfl hW' hb (fun h => by subst h; rfl)⟩

theorem over : Rows.tagOrdersRow.holds Tryd.pinned (OpenSpec.ofChange Rows.tagOrdersSpec) :=
  OpenClaim.holds_of_wide 7 Tryd.f7 rfl rfl rfl rfl rfl rfl rfl ⟨rfl, rfl, rfl, rfl, rfl⟩ rfl rfl rfl rfl rfl (by kernel_rfl) Tryd.func7 (by kernel_rfl)
    (of_decide_eq_true (by kernel_rfl)) (by unfold Func.isWrapper; first | (rw [if_pos (by decide +kernel)]; kernel_rfl) | (rw [if_neg (by decide +kernel)]; exact ⟨rfl, rfl⟩))
    (fun os started H enc _ => lifted os started H enc)

theorem proved : Rows.TagOrdersCardSaid :=
  Claim7.holds_tied_plain_at .later [] [.data, .data, .data] true (true, "510d04a44794fb9e6fc53c2df2638a7f946044d044a19504841d2ddc0542ffdf") false
    over (fun _ h => by cases h) (by kernel_rfl) (fun _ h => by cases h) tagOrders_row_tie rfl ⟨rfl, rfl⟩ (by kernel_rfl) rfl
    (fun f fn hf hfn => by
      obtain rfl : f = 7 := Option.some.inj ((show Tryd.prog.funcNamed "sakia/sakialaw17.TagOrders" = some 7 by kernel_rfl).symm.trans hf) |>.symm
      obtain rfl : fn = Tryd.f7 := (Option.some.inj (Tryd.func7.symm.trans hfn)).symm
      exact ⟨by kernel_rfl, fun j t ht => by
        have hall : Tryd.f7.params.toList.all (fun t => !Tryd.prog.wantsStandIn t) = true := by kernel_rfl
        have hm : t ∈ Tryd.f7.params.toList := by
          have := Array.mem_of_getElem? ht
          simpa using this
        have := List.all_eq_true.1 hall t hm
        exact (show Tryd.prog.wantsStandIn t = false by simpa using this)⟩)
    (by kernel_rfl)
#print axioms proved
end Go.Proofs.YtffgcloacdpfaaaDoor.tagOrders
