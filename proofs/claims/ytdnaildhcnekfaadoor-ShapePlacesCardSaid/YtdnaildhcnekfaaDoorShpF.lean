/- Layer 8: names. -/
import Derived.Test.YtdnaildhcnekfaaDoorShpE
namespace Go.Proofs.YtdnaildhcnekfaaDoor
open Go.RowKit
set_option linter.unusedVariables false
theorem elemS : Elem Tryd.prog 66 9 (.string ByteArray.empty) 1 16 := ⟨Tryd.underlying66, info_parts (by kernel_rfl), rfl, by decide⟩
/-- a number's text is D z, in every later world -/
def Says (D : Int → List UInt8) (z : Int) (w : World) : Prop := ∀ W, Below w.heap.size w W → Calls Tryd.prog 39 #[.int .i64 z] W fun e w' => e = .returned (.string ⟨(D z).toArray⟩) ∧ Below W.heap.size W w'
theorem Says.later {D : Int → List UInt8} {z : Int} {w w' : World} (h : Says D z w) (hb : Below w.heap.size w w') : Says D z w' := fun W hW => h W (hb.trans (hW.mono hb.size))
def strL (D : Int → List UInt8) (zs : List Int) : List ByteArray := zs.map fun z => ⟨(D z).toArray⟩
theorem strL_length (D : Int → List UInt8) (zs : List Int) : (strL D zs).length = zs.length := by simp [strL]
def joinT (letter : ByteArray) (D : Int → List UInt8) (zs : List Int) : ByteArray := letter ++ ⟨(Lib.join ((strL D zs).map (·.data.toList)) [46]).toArray⟩
set_option maxRecDepth 4000 in
set_option maxHeartbeats 1000000 in
theorem join_any (letter : ByteArray) (D : Int → List UInt8) (v : Value) (zs : List Int) (h1 : 1 ≤ zs.length) (h3 : zs.length ≤ 3) (hll : letter.size ≤ 10) (w : World) (hv : IntsAt .i64 w.heap.size w v zs) (hD : ∀ z ∈ zs, Says D z w)
    (hlen : (Lib.join ((strL D zs).map (·.data.toList)) [46]).length ≤ 1000) :
    Calls Tryd.prog 33 #[.string letter, v] w fun e w' => e = .returned (.string (joinT letter D zs)) ∧ Below w.heap.size w w' := by
  rcases hv.form with ⟨_, e0⟩ | ⟨g, off, cap, rfl, hcap, hb, hcs⟩
  · rw [e0] at h1; simp at h1
  have HS := Lib.hid hD
  have HCS := Lib.hid hcs
  have HLN := Lib.hid hlen
  clear hD hv hcs hlen
  have hs0 : Hid ((strL D (zs.take 0)).map Value.string = []) := Lib.hid rfl
  go_enter Tryd.func33, Tryd.ntmps33
  go_wp2_with fail
  go_loopw [5, 7, 10] (fun v _ i wr => ∃ k : Nat, k ≤ zs.length ∧ i = .int .i64 k ∧ wr.ownsRow w.heap.size 9 1 v k ((strL D (zs.take k)).map Value.string) ∧ Below w.heap.size w wr) (fun _ _ i _ => zs.length - (intOf i).toNat)
  case atStart => exact ⟨0, Nat.zero_le _, rfl, by rw [hs0.out]; exact World.ownsRow_nil _ _ _ _, Below.refl _ _⟩
  case round =>
    clear hs0
    obtain ⟨k, hk, rfl, hrow, hB⟩ := hrel
    by_cases hlt : k < zs.length
    · have hdec : decide ((k : Int) < (zs.length : Int)) = true := by simp; omega
      have wk : IntKind.i64.wrap ((k : Int) + 1) = k + 1 := IntWalk.i64_in _ (by omega)
      have d0 := cell_step hB (HCS.out k hlt)
      have hz := List.getElem?_eq_getElem hlt
      have hSay := HS.out _ (List.mem_of_getElem? hz)
      rw [hz] at d0
      have htk : zs.take (k + 1) = zs.take k ++ [zs[k]] := by rw [List.take_add_one, hz]; rfl
      simp only [Option.getD_some] at d0
      have i0 : (0 : Int) ≤ (k : Int) := by omega
      have i1 : (k : Int) < (zs.length : Int) := by omega
      generalize zs[k] = z at *
      have HTK := Lib.hid htk
      have HI := Lib.hid (hSay wr hB)
      have HROW := Lib.hid hrow
      have HB := Lib.hid hB
      clear hrow hB hSay hz htk
      go_wp2_with fail
      refine HI.out.mono ?_
      rintro e w2 ⟨rfl, b2⟩
      have hrow2 := own_below HROW.out b2
      have B2 := Lib.hid (HB.out.trans (b2.mono HB.out.size))
      have c3 := (Below.refl w2.heap.size w2).alloc (Nat.le_refl _) (.cells #[.string ⟨(D z).toArray⟩] 9)
      have HROW3 := Lib.hid (own_below hrow2 c3)
      have B3 := Lib.hid (B2.out.trans (c3.mono B2.out.size))
      have HN := Lib.hid (cell_new w2 #[.string ⟨(D z).toArray⟩] 9)
      clear hrow2 c3 b2 HI HROW HB d0
      go_wp2_with (at_builtin; refine append_list (base := w.heap.size) (n := k) (m := 1) (u := .slice (some ⟨w2.heap.size, 0, none⟩) 1 1) (ys := [.string ⟨(D z).toArray⟩]) elemS rfl _ _ rfl rfl rfl HROW3.out rfl (.inr ⟨_, _, rfl, fun j y hy => by rw [Go.WideShapes.add_plain, Nat.zero_add, HN.out]; simpa using hy⟩) (by simp [Value.oneCell']) (by unfold maxLen; omega) (by omega) B3.out.size ?_; intro v' w5 h5 g5; have O5 := Lib.hid h5; have G5 := Lib.hid g5; clear h5 g5)
      have B5 := Lib.hid (below_appended B3.out HROW3.out G5.out (Nat.le_refl _) B3.out.size)
      go_roundw
      case rel => exact ⟨k + 1, by omega, by go_num, by
        rw [HTK.out]
        unfold strL at *
        rw [List.map_append, List.map_append]
        exact O5.out, B5.out⟩
      case measure => simp [intOf]; omega
    · obtain rfl : k = zs.length := by omega
      have hdec : decide ((zs.length : Int) < (zs.length : Int)) = false := by simp
      rw [List.take_length] at hrow
      obtain ⟨gs, cs, rfl, hg1, hg2⟩ := own_some hrow (by omega)
      have HCL := Lib.hid (fun (j : Nat) (x : ByteArray) (hx : (strL D zs)[j]? = some x) => (hrow.cellAt j (by
        have : j < (strL D zs).length := by
          apply Nat.lt_of_not_le; intro hge
          rw [List.getElem?_eq_none hge] at hx; cases hx
        rw [strL_length] at this; omega)).trans (show ((strL D zs).map Value.string)[j]? = some (.string x) by rw [List.getElem?_map, hx]; rfl))
      have hcap2 : zs.length ≤ cs := by
        rcases hrow.2 with ⟨e, _⟩ | ⟨g, c, cur, e, hc, _⟩
        · cases e
        · cases e; first | exact hc | omega
      have HB := Lib.hid hB
      have HJ := Lib.hid (Tryd.strings_Join gs 0 cs (strL D zs) ⟨#[46]⟩ wr (fun j x hx => by rw [Nat.zero_add]; exact HCL.out j x hx) hg2 (by rw [strL_length]; omega) (by rw [strL_length]; exact hcap2) (Nat.le_trans HLN.out (by decide)))
      rw [strL_length] at HJ
      clear hrow hB HCL
      go_wp2_with fail
      refine HJ.out.mono ?_
      rintro e w3 ⟨rfl, b3⟩
      have B3 := Lib.hid (HB.out.trans (b3.mono HB.out.size))
      have hsz : ¬ 9223372036854775807 < letter.size + (Lib.join ((strL D zs).map (·.data.toList)) [46]).length := by have := HLN.out; omega
      clear HB b3 HJ
      go_wp2_with fail
      go_ret
      exact ⟨rfl, B3.out⟩
end Go.Proofs.YtdnaildhcnekfaaDoor
