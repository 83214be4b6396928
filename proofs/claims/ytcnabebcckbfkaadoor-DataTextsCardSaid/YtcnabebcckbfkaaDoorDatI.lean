/- Layer 10: reading words: slices.Index, each with the closure read. -/
import Derived.Test.YtcnabebcckbfkaaDoorDatH
import Derived.Test.YtcnabebcckbfkaaDoorDecX
import Derived.Deep.Cut
namespace Go.Proofs.YtcnabebcckbfkaaDoor
open Go.RowKit
set_option linter.unusedVariables false
/-- words in memory -/
def WordsAt (w : World) (b off : Nat) (ws : List (List UInt8)) : Prop := ∀ j, j < ws.length → w.cell? ⟨b, off + j, none⟩ = some (.string ⟨(ws[j]?.getD []).toArray⟩)
theorem WordsAt.later {w w' : World} {b off : Nat} {ws : List (List UInt8)} (h : WordsAt w b off ws) (hb : Below w.heap.size w w') : WordsAt w' b off ws := fun j hj => cell_step hb (h j hj)
/-- the first place of a word -/
def FirstW (ws : List (List UInt8)) (s : List UInt8) (i : Int) : Prop := (∃ k : Nat, i = k ∧ k < ws.length ∧ ws[k]?.getD [] = s ∧ ∀ j, j < k → ws[j]?.getD [] ≠ s) ∨ (i = -1 ∧ ∀ j, j < ws.length → ws[j]?.getD [] ≠ s)
set_option maxHeartbeats 1000000 in
theorem indexW_any (b off c : Nat) (ws : List (List UInt8)) (s : List UInt8) (hl : ws.length ≤ 100000) (w : World) (h : WordsAt w b off ws) :
    Calls Tryd.prog 35 #[.slice (some ⟨b, off, none⟩) ws.length c, .string ⟨s.toArray⟩] w fun e w' => (∃ i, e = .returned (.int .i64 i) ∧ FirstW ws s i) ∧ w = w' := by
  have HW := Lib.hid h
  clear h
  go_enter Tryd.func35, Tryd.ntmps35
  go_wp2_with fail
  go_loopw [5, 8] (fun _ iv wr => ∃ k : Nat, k ≤ ws.length ∧ iv = .int .i64 k ∧ Hid (∀ j, j < k → ws[j]?.getD [] ≠ s) ∧ wr = w) (fun _ iv _ => ws.length - (intOf iv).toNat)
  case atStart => exact ⟨0, Nat.zero_le _, rfl, Lib.hid (fun j hj => absurd hj (Nat.not_lt_zero j)), rfl⟩
  case round =>
    obtain ⟨k, hk, rfl, HN, rfl⟩ := hrel
    by_cases hlt : k < ws.length
    · have c0 := HW.out k hlt
      have i0 : (0 : Int) ≤ (k : Int) := by omega
      have i1 : (k : Int) < (ws.length : Int) := by omega
      have HK : Hid (ws[k]?.getD [] = s → FirstW ws s k) := Lib.hid (fun e => .inl ⟨k, rfl, hlt, e, HN.out⟩)
      have HK2 : Hid (ws[k]?.getD [] ≠ s → ∀ j, j < k + 1 → ws[j]?.getD [] ≠ s) := Lib.hid (fun e j hj => by
        rcases Nat.lt_succ_iff_lt_or_eq.1 hj with h | rfl
        · exact HN.out j h
        · exact e)
      generalize ws[k]?.getD [] = t at *
      by_cases he : t = s
      · have HF := Lib.hid (HK.out he)
        subst he
        have g1 : (t == t) = true := by simp
        clear HK HK2
        go_wp2_with fail
        go_ret
        exact ⟨⟨_, rfl, HF.out⟩, rfl⟩
      · have HF := Lib.hid (HK2.out he)
        have g1 : (s == t) = false := by simpa using fun e => he e.symm
        have g2 : ¬ s = t := fun e => he e.symm
        clear HK HK2
        go_wp2_with fail
        go_roundw
        case rel => exact ⟨k + 1, by omega, by go_num, HF, by first | rfl | trivial⟩
        case measure => simp [intOf]; omega
    · have hke : k = ws.length := by omega
      subst hke
      go_wp2_with fail
      go_ret
      exact ⟨⟨_, rfl, .inr ⟨rfl, HN.out⟩⟩, rfl⟩
theorem read_any (E : Nat) (s : ByteArray) (q : Int) (w : World) (ht : Pow10 w) (hE : w.cell? ⟨E, 0, none⟩ = some (.int .i64 q)) :
    Calls Tryd.prog 32 #[.string s, .pointer (some ⟨E, 0, none⟩)] w fun e w' => (∃ x ok, e = .returned (.tuple #[.int .i64 x, .bool ok]) ∧ ParseIs s q x ok) ∧ Below w.heap.size w w' := by
  have HP := Lib.hid (parse_any s q w ht)
  clear ht
  go_enter Tryd.func32, Tryd.ntmps32
  go_wp2_with fail
  refine HP.out.mono ?_
  rintro e w1 ⟨⟨x, ok, rfl, p1⟩, b1⟩
  have P1 := Lib.hid p1
  clear p1
  go_wp2_with fail
  go_ret2
  exact ⟨⟨x, ok, rfl, P1.out⟩, b1⟩
/-- what reading a list of words gives -/
def ReadAll (ws : List (List UInt8)) (q : Int) (w : World) (e : Ending) (w' : World) : Prop :=
  (∃ v xs, e = .returned (.tuple #[v, .bool true]) ∧ xs.length = ws.length ∧ (∀ j, j < ws.length → ParseIs ⟨(ws[j]?.getD []).toArray⟩ q (xs[j]?.getD 0) true) ∧ w'.ownsRow w.heap.size 2 1 v xs.length (intsV xs) ∧ Below w.heap.size w w') ∨
  (∃ j x, j < ws.length ∧ ParseIs ⟨(ws[j]?.getD []).toArray⟩ q x false ∧ e = .returned (.tuple #[.slice none 0 0, .bool false]) ∧ Below w.heap.size w w')
set_option maxHeartbeats 4000000 in
theorem eachR_any (E b off c : Nat) (q : Int) (ws : List (List UInt8)) (hl : ws.length ≤ 100000) (w : World) (ht : Pow10 w) (hE : w.cell? ⟨E, 0, none⟩ = some (.int .i64 q)) (h : WordsAt w b off ws) :
    Calls Tryd.prog 36 #[.slice (some ⟨b, off, none⟩) ws.length c, .func (.func 32) #[] #[.pointer (some ⟨E, 0, none⟩)]] w (ReadAll ws q w) := by
  have HW := Lib.hid h
  have HT := Lib.hid ht
  have HE := Lib.hid hE
  have X0 := Lib.hid (And.intro (World.ownsRow_nil w w.heap.size 2 1) (Below.refl w.heap.size w))
  have P0 : Hid (∀ j, j < 0 → ParseIs ⟨(ws[j]?.getD []).toArray⟩ q (([] : List Int)[j]?.getD 0) true) := Lib.hid (fun j hj => absurd hj (Nat.not_lt_zero j))
  clear h ht hE
  go_enter Tryd.func36, Tryd.ntmps36
  go_wp2_with fail
  go_loopw [6, 8, 9, 10, 13] (fun rv _ _ _ iv wr => ∃ k : Nat, ∃ xs : List Int, k ≤ ws.length ∧ iv = .int .i64 k ∧ xs.length = k ∧ Hid (∀ j, j < k → ParseIs ⟨(ws[j]?.getD []).toArray⟩ q (xs[j]?.getD 0) true) ∧ Hid (wr.ownsRow w.heap.size 2 1 rv k (intsV xs) ∧ Below w.heap.size w wr)) (fun _ _ _ _ iv _ => ws.length - (intOf iv).toNat)
  case atStart => exact ⟨0, [], Nat.zero_le _, rfl, rfl, P0, X0⟩
  case round =>
    clear X0 P0
    obtain ⟨k, xs, hk, rfl, hxs, HP, HX⟩ := hrel
    by_cases hlt : k < ws.length
    · have c0 := cell_step HX.out.2 (HW.out k hlt)
      have i0 : (0 : Int) ≤ (k : Int) := by omega
      have i1 : (k : Int) < (ws.length : Int) := by omega
      have HR := Lib.hid (read_any E ⟨(ws[k]?.getD []).toArray⟩ q wr (HT.out.later HX.out.2) (cell_step HX.out.2 HE.out))
      generalize hwk : (ws[k]?.getD []) = wk at HR c0
      replace hwk := Lib.hid hwk
      obtain ⟨ra, rc, rfl⟩ := own_value HX.out.1
      go_wp2_with fail
      refine HR.out.mono ?_
      rintro e w2 ⟨⟨x, ok, rfl, p1⟩, b2⟩
      have O2 := Lib.hid (own_below HX.out.1 b2)
      have B2 := Lib.hid (HX.out.2.trans (b2.mono HX.out.2.size))
      rw [← hwk.out] at p1
      have P1 := Lib.hid p1
      clear HR p1 b2 c0 HX hwk
      cases ok
      · go_wp2_with fail
        go_ret2
        exact .inr ⟨k, x, hlt, P1.out, rfl, B2.out⟩
      · have HP2 : Hid (∀ j, j < k + 1 → ParseIs ⟨(ws[j]?.getD []).toArray⟩ q ((xs ++ [x])[j]?.getD 0) true) := Lib.hid (fun j hj => by
          rcases Nat.lt_succ_iff_lt_or_eq.1 hj with h | rfl
          · rw [List.getElem?_append_left (by omega)]
            exact HP.out j h
          · rw [List.getElem?_append_right (by omega), hxs, Nat.sub_self]
            exact P1.out)
        have HXS := Lib.hid hxs
        clear HP P1 hxs
        go_wp2_with (at_builtin; refine append_one_lies (g := w2.heap.size) elemV rfl _ _ rfl rfl rfl rfl O2.out rfl ?_ ?_ ?_ ?_ ?_; (simp [Value.oneCell']); (unfold maxLen; omega); omega; (exact B2.out.size); intro b' cap' w9 ho' hg' hat9; have X9 := Lib.hid (And.intro ho' (below_appended B2.out O2.out hg' (Nat.le_refl _) B2.out.size)); clear ho' hg' hat9)
        go_roundw
        case rel => exact ⟨k + 1, xs ++ [x], by omega, by go_num, by rw [List.length_append, HXS.out]; rfl, HP2, by unfold intsV at X9 ⊢; rw [List.map_append]; exact X9⟩
        case measure => simp [intOf]; omega
    · have hke : k = ws.length := by omega
      subst hke
      obtain ⟨ra, rc, rfl⟩ := own_value HX.out.1
      have HXS := Lib.hid hxs
      clear hxs
      go_wp2_with fail
      go_ret2
      exact .inl ⟨_, xs, rfl, HXS.out, HP.out, by rw [HXS.out]; exact HX.out.1, HX.out.2⟩
end Go.Proofs.YtcnabebcckbfkaaDoor
