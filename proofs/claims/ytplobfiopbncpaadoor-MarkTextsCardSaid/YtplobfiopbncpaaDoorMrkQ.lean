/- Layer 16: Parse of the text of a mark. -/
import Derived.Test.YtplobfiopbncpaaDoorMrkP
import Derived.Test.YtplobfiopbncpaaDoorMrkJ
namespace Go.Proofs.YtplobfiopbncpaaDoor
open Go.RowKit
set_option linter.unusedVariables false
def signC (b : UInt8) : Bool := ([43, 45] : List UInt8).contains b
theorem lastSign_of (A C : List UInt8) (sg : UInt8) (hs : ([43, 45] : List UInt8).contains sg = true) (hC : ∀ b ∈ C, ([43, 45] : List UInt8).contains b = false) : LastSign (A ++ sg :: C) A.length := by
  refine ⟨by simp, ?_, fun j h1 h2 => ?_⟩
  · rw [List.getElem?_append_right (Nat.le_refl _), Nat.sub_self]
    exact hs
  · rw [List.getElem?_append_right (by omega)]
    obtain ⟨k, hk⟩ : ∃ k, j - A.length = k + 1 := ⟨j - A.length - 1, by omega⟩
    rw [hk, List.getElem?_cons_succ]
    rw [List.length_append, List.length_cons] at h2
    have hl : k < C.length := by omega
    rw [List.getElem?_eq_getElem hl, Option.getD_some]
    exact hC _ (List.getElem_mem hl)
theorem textB0 (x : Int) : textB x 0 = (if x < 0 then [45] else []) ++ (digsN x.natAbs).map digB := by
  rw [← text0]
  unfold textB
  rw [if_pos (by omega)]
  rfl
theorem digs_mem {n : Nat} {b : UInt8} (h : b ∈ (digsN n).map digB) : 48 ≤ b.toNat ∧ b.toNat ≤ 57 := by
  obtain ⟨d, hd, rfl⟩ := List.mem_map.1 h
  have := digsN_lt n d hd
  rw [digB_toNat this]
  omega
theorem textB_ascii {x : Int} {b : UInt8} (h : b ∈ textB x 0) : b.toNat < 128 := by
  rw [textB0, List.mem_append] at h
  rcases h with h | h
  · split at h
    · simp at h; subst h; decide
    · simp at h
  · have := digs_mem h; omega
theorem textB_nat {n : Nat} {b : UInt8} (h : b ∈ textB (n : Int) 0) : 48 ≤ b.toNat ∧ b.toNat ≤ 57 := by
  rw [textB0, if_neg (by omega), List.nil_append] at h
  exact digs_mem h
theorem textB_neg {y : Int} (h : y < 0) : textB y 0 = 45 :: textB (y.natAbs : Int) 0 := by
  rw [textB0, textB0, if_pos h, if_neg (by omega), Int.natAbs_natCast]
  rfl
theorem sign_false {b : UInt8} (h : 48 ≤ b.toNat) : ([43, 45] : List UInt8).contains b = false := by
  rw [Bool.eq_false_iff]
  intro hc
  rw [List.contains_iff_mem] at hc
  simp at hc
  rcases hc with rfl | rfl <;> revert h <;> decide
/-- the parts of a mark's text -/
def sgB (y : Int) : UInt8 := if y < 0 then 45 else 43
theorem markL_form (x y : Int) : markL x y = textB x 0 ++ sgB y :: (textB (y.natAbs : Int) 0 ++ [105]) := by
  unfold markL sgB
  simp
theorem mark_last (x y : Int) : LastSign (textB x 0 ++ sgB y :: (textB (y.natAbs : Int) 0 ++ [105])) (textB x 0).length := by
  refine lastSign_of _ _ _ (by unfold sgB; split <;> decide) fun b hb => ?_
  rcases List.mem_append.1 hb with h | h
  · exact sign_false (textB_nat h).1
  · simp at h; subst h; decide
theorem mark_ascii (x y : Int) : ∀ b ∈ textB x 0 ++ sgB y :: (textB (y.natAbs : Int) 0 ++ [105]), b.toNat < 128 := by
  intro b hb
  rcases List.mem_append.1 hb with h | h
  · exact textB_ascii h
  · rcases List.mem_cons.1 h with rfl | h
    · unfold sgB; split <;> decide
    · rcases List.mem_append.1 h with h | h
      · have := textB_nat h; omega
      · simp at h; subst h; decide
theorem parseIs_text {x X : Int} {ok : Bool} (h0 : -9223372036854775808 ≤ x) (h1 : x ≤ 9223372036854775807) (h : ParseIs ⟨(textB x 0).toArray⟩ 0 X ok) : X = x ∧ ok = true := by
  rcases h with ⟨h2, _, _, h3⟩ | ⟨_, _, h3⟩
  · refine ⟨?_, h2⟩
    have e1 : (textB X 0).toArray = (textB x 0).toArray := congrArg ByteArray.data h3
    have e2 : textB X 0 = textB x 0 := by simpa using e1
    unfold textB at e2
    rw [if_pos (by omega), if_pos (by omega)] at e2
    exact textL_inj (k := 0) (by omega) e2
  · exact absurd rfl (h3 x h0 h1 (by decide))
theorem hasI_in (D : List UInt8) (hD : D.length ≤ 1000) (w : World) : Calls Tryd.prog 43 #[.string ⟨(D ++ [105]).toArray⟩, .string ⟨#[105]⟩] w fun e w' => e = .returned (.bool true) ∧ w = w' := by
  have hl : (D ++ [105]).length = D.length + 1 := by simp
  have hex : (⟨(D ++ [105]).toArray⟩ : ByteArray).extract D.length (D.length + 1) = ⟨#[105]⟩ := by
    rw [extract_list]; simp
  have i9 : (D.length : Int) ≤ 1000 := by omega
  generalize hL : D ++ [105] = L at *
  generalize D.length = n at *
  go_enter Tryd.func43, Tryd.ntmps43
  go_wp2_with fail
  go_ret
  exact ⟨by first | rfl | (simp; done), rfl⟩
theorem hasI_any (D : List UInt8) (hD : D.length ≤ 1000) (w : World) : Calls Tryd.prog 29 #[.string ⟨(D ++ [105]).toArray⟩, .string ⟨#[105]⟩] w fun e w' => e = .returned (.bool true) ∧ w = w' := by
  have H := Lib.hid (hasI_in D hD w)
  generalize D ++ [105] = L at *
  go_enter Tryd.func29, Tryd.ntmps29
  go_wp2_with fail
  refine H.out.mono ?_
  rintro e w' ⟨rfl, rfl⟩
  go_wp2_with fail
  go_ret
  exact ⟨rfl, rfl⟩
end Go.Proofs.YtplobfiopbncpaaDoor
