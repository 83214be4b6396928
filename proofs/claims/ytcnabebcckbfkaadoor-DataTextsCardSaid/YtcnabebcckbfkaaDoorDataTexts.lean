/- For every example and every int the law DataTexts returns true. No condition. -/
import Derived.Test.YtcnabebcckbfkaaDoorTie
import Derived.Test.YtcnabebcckbfkaaDoorCards
import Derived.LaidLaws
import Derived.LaidHandle
import Derived.SevenTiedAt
import Derived.Test.YtcnabebcckbfkaaDoorDatM
import Derived.Test.YtcnabebcckbfkaaDoorDecL
import Derived.Test.YtcnabebcckbfkaaDoorWrap
import Derived.Test.YtcnabebcckbfkaaDoorLaw
namespace Go.Proofs.YtcnabebcckbfkaaDoor.dataTexts
open Go.ChangeShapes Go.WideShapes Go.ChangeAt Go.RowKit
set_option linter.unusedVariables false

/-- the cells of a laid table of integers -/
def tabCells : DataW Unit → Array Value
  | .agg l => (l.flatMap fun | .lit (.int k a) => [Value.int k a] | .agg m => m.map (fun | .lit (.int k a) => Value.int k a | _ => undef) | _ => [undef]).toArray
  | _ => #[]
def layTab (h : Array Obj) (g : Nat) (d : DataW Unit) : Array Obj := h.modify g fun
  | .cells _ t frozen => .cells (tabCells d) t frozen
  | o => o
/-- a world in which the tables lie as the program's text lays them -/
noncomputable def laidWorld (os : Os) : World :=
  let w0 := World.holding Tryd.prog os ⟨#[], #[], []⟩
  { w0 with heap := (layTab (layTab (layTab (layTab (layTab w0.heap 4 Rows.laid_math_bits_deBruijn32tab) 5 Rows.laid_math_bits_deBruijn64tab) 0 Rows.laid_internal_strconv_uint64pow10) 3 Rows.laid_unicode_utf8_acceptRanges) 2 Rows.laid_unicode_utf8_first) }
theorem laidWorld_met (os : Os) (args : Array Value) : laidMetH Tryd.prog Rows.dataTextsRow.laid ((laidWorld os).forCall (fun _ _ => 0) ⟨#[], args, []⟩).memory :=
  laidMetH_of_parts (laidMet_of_run' 70 (by kernel_rfl) (by kernel_rfl)) (by kernel_rfl)
theorem own : ownKnob Tryd.prog.godebug = none := by kernel_rfl

theorem readable : ∀ t ∈ Tryd.f3.params.toList, Tryd.prog.readableRec t = true ∧ t < Tryd.prog.types.size := by
  have h : (Tryd.f3.params.toList.all fun t => Tryd.prog.readableRec t && decide (t < Tryd.prog.types.size)) = true := by kernel_rfl
  intro t ht
  have h1 := List.all_eq_true.1 h t ht
  rw [Bool.and_eq_true] at h1
  exact ⟨h1.1, of_decide_eq_true h1.2⟩

set_option maxRecDepth 100000 in
theorem lifted (os : Os) (started : os.Started) (H : Type) (enc : TypeId × Value → H) :
    ReturnsInHanded {} Tryd.checked os 3 .any (fun w args => (Rows.dataTextsSpec.pre enc Tryd.prog Tryd.f3 [] false w args ∧ laidMetH Tryd.prog Rows.dataTextsRow.laid w) ∧ sizedMet enc Tryd.prog Tryd.f3 (OpenSpec.ofChange Rows.dataTextsSpec) false w args)
      (Rows.dataTextsSpec.post enc Tryd.prog Tryd.f3 false true false false) := by
  refine wrap_and_shaped (C := Tryd.checked) (X := fun w _ => laidMetH Tryd.prog Rows.dataTextsRow.laid w) (fun _ _ _ hh h => h.of_heap hh) own started (by kernel_rfl) Tryd.func3
    (ChangeSpec.witness_at (enc := enc) (C := Tryd.checked) (os := os) (X := fun w _ => laidMetH Tryd.prog Rows.dataTextsRow.laid w) false (laidWorld os) #[.agg #[.slice none 0 0, .slice none 0 0], .int .i64 0] 8 rfl (by kernel_rfl) (by kernel_rfl) (by kernel_rfl) (by kernel_rfl) (by kernel_rfl) (laidWorld_met os _)) ?_
  intro W base args ds gs before hval0 hW hL hsh
  obtain ⟨mm, hmm⟩ := Tryd.laysM146.s1_3 W hsh
  have hval : ∀ (j : Nat) t v, Tryd.f3.params[j]? = some t → args[j]? = some v → Value.okWide Tryd.prog W .any base t v := hval0
  have hW' := hW
  obtain ⟨p, q, hA0, hV, hpq, hfz, hnd⟩ := hW
  have hA : DataW.TrodAll enc Tryd.prog W 0 (fun _ => true) true Tryd.f3.params.toList args.toList ds p := hA0
  rw [Tryd.params3] at hA hval
  obtain ⟨v0, vs0, d0, ds0, p0, q0, hargs, rfl, rfl, h0, r0⟩ := trodAll_cons hA
  obtain ⟨v1, vs1, d1, ds1, p1, q1, rfl, rfl, rfl, h1, r1⟩ := trodAll_cons r0
  obtain ⟨rfl, rfl, rfl⟩ := trodAll_nil r1
  obtain rfl : args = #[v0, v1] := by cases args; simp_all
  clear hA0 hval0
  obtain ⟨cs_a, rfl, sz_a⟩ := agg_value Tryd.underlying24 (by kernel_rfl) (hval 0 24 v0 rfl rfl)
  obtain ⟨a0, a1, rfl⟩ := Go.Joins.array2 sz_a
  have R_a := reads_arg h0
  have R_a_0 := reads_field (k := 1) (cs' := [a0]) Tryd.underlying24 R_a 0 _ rfl rfl rfl (by kernel_rfl) rfl
  have R_a_1 := reads_field (k := 1) (cs' := [a1]) Tryd.underlying24 R_a 1 _ rfl rfl rfl (by kernel_rfl) rfl
  obtain ⟨z_a0, L_a0, wf_a0, m_a0⟩ := reads_ints Tryd.underlying22 Tryd.underlying2 (by kernel_rfl) R_a_0
  obtain ⟨z_a1, L_a1, wf_a1, m_a1⟩ := reads_ints Tryd.underlying22 Tryd.underlying2 (by kernel_rfl) R_a_1
  obtain ⟨q, rfl, rfl, rfl, wf1⟩ := open_int Tryd.underlying3 (hval 1 3 v1 rfl rfl) h1
  have w_q := wf_i64 wf1
  refine (walk_texts _ _ z_a0 z_a1 q W (pow10_of (by kernel_rfl) hL) mm hmm (fun z hz => wf_i64 (wf_a0 z hz)) (fun z hz => wf_i64 (wf_a1 z hz)) L_a0 L_a1).mono fun e W' ⟨he, hb⟩ => ?_
  subst he
  exact ⟨_, rfl, law_post (by kernel_rfl) (by kernel_rfl) Tryd.underlying4 readable rfl hW' hb (fun h => by subst h; rfl)⟩

theorem over : Rows.dataTextsRow.holds Tryd.pinned (OpenSpec.ofChange Rows.dataTextsSpec) :=
  OpenClaim.holds_of_wide 3 Tryd.f3 rfl rfl rfl rfl rfl rfl rfl ⟨rfl, rfl, rfl, rfl, rfl⟩ rfl rfl rfl rfl rfl (by kernel_rfl) Tryd.func3 (by kernel_rfl)
    (of_decide_eq_true (by kernel_rfl)) (by unfold Func.isWrapper; first | (rw [if_pos (by decide +kernel)]; kernel_rfl) | (rw [if_neg (by decide +kernel)]; exact ⟨rfl, rfl⟩))
    (fun os started H enc _ => lifted os started H enc)

theorem proved : Rows.DataTextsCardSaid :=
  Claim7.holds_tied_plain_at .later [] [.data, .data, .data, .data, .pinned] true (true, "a786581236e034baba1a4b58f856679d8af8d66f934cccb4bda7f9e9885481d2") false
    over (fun _ h => by cases h) (by kernel_rfl) (fun _ h => by cases h) dataTexts_row_tie rfl ⟨rfl, rfl⟩ (by kernel_rfl) rfl
    (fun f fn hf hfn => by
      obtain rfl : f = 3 := Option.some.inj ((show Tryd.prog.funcNamed "sakia/sakialaw10.DataTexts" = some 3 by kernel_rfl).symm.trans hf) |>.symm
      obtain rfl : fn = Tryd.f3 := (Option.some.inj (Tryd.func3.symm.trans hfn)).symm
      exact ⟨by kernel_rfl, fun j t ht => by
        have hall : Tryd.f3.params.toList.all (fun t => !Tryd.prog.wantsStandIn t) = true := by kernel_rfl
        have hm : t ∈ Tryd.f3.params.toList := by
          have := Array.mem_of_getElem? ht
          simpa using this
        have := List.all_eq_true.1 hall t hm
        exact (show Tryd.prog.wantsStandIn t = false by simpa using this)⟩)
    (by kernel_rfl)
#print axioms proved
end Go.Proofs.YtcnabebcckbfkaaDoor.dataTexts
