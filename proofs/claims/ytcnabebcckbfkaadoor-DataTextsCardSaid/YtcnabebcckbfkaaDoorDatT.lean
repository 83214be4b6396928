/- Layer 10: the texts of the numbers of an example. -/
import Derived.Test.YtcnabebcckbfkaaDoorDatG
import Derived.Test.YtcnabebcckbfkaaDoorExs
import Derived.Deep.Cut
namespace Go.Proofs.YtcnabebcckbfkaaDoor
open Go.RowKit
set_option linter.unusedVariables false
theorem textB_cons (x q : Int) (hq : 0 ≤ q ∧ q ≤ 62) : ∃ b A, textB x q = b :: A := by
  cases h : textB x q with
  | nil =>
    exfalso
    unfold textB at h
    rw [if_pos hq] at h
    unfold textL at h
    rw [List.append_eq_nil_iff, List.append_eq_nil_iff] at h
    have h2 := h.1.2
    unfold Lib.decDigits at h2
    split at h2 <;> simp at h2
  | cons b A => exact ⟨b, A, rfl⟩
theorem write_any (E : Nat) (x q : Int) (hx : -9223372036854775808 ≤ x ∧ x ≤ 9223372036854775807) (hq : 0 ≤ q ∧ q ≤ 62) (w : World) (ht : Pow10 w) (hE : w.cell? ⟨E, 0, none⟩ = some (.int .i64 q)) :
    Calls Tryd.prog 26 #[.int .i64 x, .pointer (some ⟨E, 0, none⟩)] w fun e w' => e = .returned (.tuple #[.string ⟨(textB x q).toArray⟩, .bool true]) ∧ Below w.heap.size w w' := by
  have H := Lib.hid (text_any x q hx.1 hx.2 w ht)
  obtain ⟨b, A, hA⟩ := textB_cons x q hq
  rw [hA] at H ⊢
  clear hA ht
  go_enter Tryd.func26, Tryd.ntmps26
  go_wp2_with fail
  refine H.out.mono ?_
  rintro e w1 ⟨rfl, b1⟩
  go_wp2_with fail
  go_ret2
  exact ⟨by first | rfl | (simp; done), b1⟩
/-- the texts of numbers -/
def strE (xs : List Int) (q : Int) : List Value := xs.map fun x => .string ⟨(textB x q).toArray⟩
theorem strE_length (xs : List Int) (q : Int) : (strE xs q).length = xs.length := by simp [strE]
theorem strE_take (xs : List Int) (q : Int) (k : Nat) (h : k < xs.length) : strE (xs.take (k + 1)) q = strE (xs.take k) q ++ [.string ⟨(textB (xs[k]?.getD 0) q).toArray⟩] := by
  have e : xs.take (k + 1) = xs.take k ++ [xs[k]] := by rw [List.take_add_one, List.getElem?_eq_getElem h]; rfl
  unfold strE
  rw [e, List.getElem?_eq_getElem h, List.map_append]
  rfl
theorem IntsW.at' {q : IntKind} {n₀ c n : Nat} {a : Option Addr} {w : World} {zs : List Int} (h : IntsW q n₀ w (.slice a n c) zs) (k : Nat) (hk : k < zs.length) : ∃ b off, a = some ⟨b, off, none⟩ ∧ b < n₀ ∧ w.cell? ⟨b, off + k, none⟩ = some (.int q (zs[k]?.getD 0)) := by
  rcases h with ⟨rfl, _⟩ | h
  · simp at hk
  · rcases h.form with ⟨_, e0⟩ | ⟨b, off, cap, e, hcap, hb, hcs⟩
    · rw [e0] at hk; simp at hk
    · cases e; exact ⟨b, off, rfl, hb, hcs k hk⟩
set_option maxHeartbeats 2000000 in
theorem eachW_any (v : Value) (xs : List Int) (E : Nat) (q : Int) (hl : xs.length ≤ 1000000) (hw : ∀ z ∈ xs, -9223372036854775808 ≤ z ∧ z ≤ 9223372036854775807) (hq : 0 ≤ q ∧ q ≤ 62) (w : World) (ht : Pow10 w) (hE : w.cell? ⟨E, 0, none⟩ = some (.int .i64 q)) (hv : IntsW .i64 w.heap.size w v xs) :
    Calls Tryd.prog 28 #[v, .func (.func 26) #[] #[.pointer (some ⟨E, 0, none⟩)]] w fun e w' => (∃ u, e = .returned (.tuple #[u, .bool true]) ∧ w'.ownsRow w.heap.size 9 1 u xs.length (strE xs q)) ∧ Below w.heap.size w w' := by
  obtain ⟨a, c, rfl⟩ := hv.value
  have HV := Lib.hid hv
  have HW := Lib.hid hw
  have HWR := Lib.hid (fun (x : Int) (hx : -9223372036854775808 ≤ x ∧ x ≤ 9223372036854775807) W (hW : Below w.heap.size w W) => write_any E x q hx hq W (ht.later hW) (cell_step hW hE))
  have X0 := Lib.hid (And.intro (show w.ownsRow w.heap.size 9 1 (.slice none 0 0) 0 (strE (xs.take 0) q) from World.ownsRow_nil _ _ _ _) (Below.refl w.heap.size w))
  clear hv hw ht hE
  go_enter Tryd.func28, Tryd.ntmps28
  go_wp2_with fail
  go_loopw [6, 8, 9, 10, 13] (fun rv _ _ _ iv wr => ∃ k : Nat, k ≤ xs.length ∧ iv = .int .i64 k ∧ Hid (wr.ownsRow w.heap.size 9 1 rv k (strE (xs.take k) q) ∧ Below w.heap.size w wr)) (fun _ _ _ _ iv _ => xs.length - (intOf iv).toNat)
  case atStart => exact ⟨0, Nat.zero_le _, rfl, X0⟩
  case round =>
    clear X0
    obtain ⟨k, hk, rfl, HX⟩ := hrel
    by_cases hlt : k < xs.length
    · obtain ⟨b, off, rfl, hb, hc⟩ := HV.out.at' k hlt
      have c1 := (HX.out.2.cell (p := ⟨b, off + k, none⟩) hb).trans hc
      have hx := HW.out (xs[k]?.getD 0) (by rw [List.getElem?_eq_getElem hlt]; exact List.getElem_mem _)
      have HT := Lib.hid (strE_take xs q k hlt)
      have i0 : (0 : Int) ≤ (k : Int) := by omega
      have i1 : (k : Int) < (xs.length : Int) := by omega
      have HWK := Lib.hid (HWR.out _ hx wr HX.out.2)
      clear hb hc hx
      generalize xs[k]?.getD 0 = x at *
      generalize (⟨(textB x q).toArray⟩ : ByteArray) = s at *
      go_wp2_with fail
      refine HWK.out.mono ?_
      rintro e w2 ⟨rfl, b2⟩
      have O2 := Lib.hid (own_below HX.out.1 b2)
      have B2 := Lib.hid (HX.out.2.trans (b2.mono HX.out.2.size))
      obtain ⟨ra, rc, rfl⟩ := own_value HX.out.1
      clear b2 HX HWK c1
      go_wp2_with (at_builtin; refine append_one_lies (g := w2.heap.size) elemS rfl _ _ rfl rfl rfl rfl O2.out rfl ?_ ?_ ?_ ?_ ?_; (simp [Value.oneCell']); (unfold maxLen; omega); omega; (exact B2.out.size); intro b' cap' w9 ho' hg' hat9; have X9 := Lib.hid (And.intro ho' (below_appended B2.out O2.out hg' (Nat.le_refl _) B2.out.size)); clear ho' hg' hat9)
      go_roundw
      case rel => exact ⟨k + 1, by omega, by go_num, by rw [HT.out]; exact X9⟩
      case measure => simp [intOf]; omega
    · have hke : k = xs.length := by omega
      subst hke
      rw [List.take_length] at HX
      obtain ⟨ra, rc, rfl⟩ := own_value HX.out.1
      go_wp2_with fail
      go_ret2
      exact ⟨⟨_, rfl, HX.out.1⟩, HX.out.2⟩
end Go.Proofs.YtcnabebcckbfkaaDoor
