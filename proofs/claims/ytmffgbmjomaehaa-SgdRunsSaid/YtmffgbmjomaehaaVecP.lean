/- Products of vectors. -/
import Derived.Test.YtmffgbmjomaehaaVecW
import Derived.Test.YtmffgbmjomaehaaVecR
namespace Go.Proofs.Ytmffgbmjomaehaa
open Go.RowKit
set_option linter.unusedVariables false
/-- the first k elements are turned by f -/
def mapP (f : Int → Int) (zs : List Int) (k : Nat) : List Int := (zs.take k).map f ++ zs.drop k
theorem mapP_zero (f : Int → Int) (zs : List Int) : mapP f zs 0 = zs := by unfold mapP; simp
theorem mapP_all (f : Int → Int) (zs : List Int) : mapP f zs zs.length = zs.map f := by unfold mapP; simp
theorem mapP_length (f : Int → Int) (zs : List Int) (k : Nat) : (mapP f zs k).length = zs.length := by unfold mapP; simp; omega
theorem mapP_get (f : Int → Int) (zs : List Int) (k i : Nat) (hi : i < zs.length) : (mapP f zs k)[i]? = some (if i < k then f (zs[i]?.getD 0) else zs[i]?.getD 0) := by
  unfold mapP
  by_cases hik : i < k
  · rw [List.getElem?_append_left (by simp; omega), if_pos hik, List.getElem?_map, List.getElem?_take, if_pos hik, List.getElem?_eq_getElem hi]
    rfl
  · rw [List.getElem?_append_right (by simp; omega), if_neg hik, List.getElem?_drop]
    have e : k + (i - ((zs.take k).map f).length) = i := by simp; omega
    rw [e, List.getElem?_eq_getElem hi]
    rfl
theorem mapP_set (f : Int → Int) (zs : List Int) (k : Nat) (hk : k < zs.length) : (mapP f zs k).set k (f (zs[k]?.getD 0)) = mapP f zs (k + 1) := by
  apply List.ext_getElem?
  intro i
  by_cases hi : i < zs.length
  · rw [mapP_get f zs (k + 1) i hi, List.getElem?_set]
    by_cases e : k = i
    · subst e
      rw [if_pos rfl, mapP_length, if_pos hk, if_pos (by omega)]
    · rw [if_neg e, mapP_get f zs k i hi]
      congr 1
      by_cases h1 : i < k
      · rw [if_pos h1, if_pos (by omega)]
      · rw [if_neg h1, if_neg (by omega)]
  · rw [List.getElem?_eq_none (by rw [List.length_set, mapP_length]; omega), List.getElem?_eq_none (by rw [mapP_length]; omega)]
def scaleL (zs : List Int) (a q : Int) : List Int := zs.map fun z => mulq z a q
def prods (zs ys : List Int) (q : Int) : List Int := List.zipWith (fun x y => mulq x y q) zs ys
theorem prods_take (zs ys : List Int) (q : Int) (k : Nat) (h1 : k < zs.length) (h2 : k < ys.length) : prods (zs.take (k + 1)) (ys.take (k + 1)) q = prods (zs.take k) (ys.take k) q ++ [mulq (zs[k]?.getD 0) (ys[k]?.getD 0) q] := by
  unfold prods
  rw [List.take_succ_eq_append_getElem h1, List.take_succ_eq_append_getElem h2, List.zipWith_append (by simp; omega), List.getElem?_eq_getElem h1, List.getElem?_eq_getElem h2]
  rfl
theorem prods_comm (zs ys : List Int) (q : Int) : prods zs ys q = prods ys zs q := by
  unfold prods
  induction zs generalizing ys with
  | nil => simp
  | cons x xs ih =>
    cases ys with
    | nil => simp
    | cons y ys => simp only [List.zipWith_cons_cons, ih, mulq_comm x y]
def dotB (zs ys : List Int) : Bool := decide (zs.length = ys.length)
def dotV (zs ys : List Int) (q : Int) : Int := if zs.length = ys.length then sumw (prods zs ys q) else 0
theorem dot_comm (zs ys : List Int) (q : Int) : dotV zs ys q = dotV ys zs q := by
  unfold dotV
  by_cases h : zs.length = ys.length
  · rw [if_pos h, if_pos h.symm, prods_comm]
  · rw [if_neg h, if_neg (fun e => h e.symm)]
set_option maxHeartbeats 1000000 in
theorem scale_any (v : Value) (zs : List Int) (a q : Int) (ha : Word a) (hw : ∀ z ∈ zs, Word z) (hm : zs.length * 8 ≤ 140737488351232) (w : World) (hv : IntsAt .i64 w.heap.size w v zs) :
    Calls Try.prog 28 #[v, .int .i64 a, .int .i64 q] w (ClonedTo 2 1 zs.length ((scaleL zs a q).map (Value.int .i64)) w) := by
  have HC := Lib.hid (vclone_w v zs hm w.heap.size w (Nat.le_refl _) (.inr hv))
  obtain ⟨pa, c, rfl⟩ := ints_value hv
  have HW := Lib.hid hw
  clear hv hw
  go_enter Try.func28, Try.ntmps28
  go_wp2_with fail
  refine HC.out.mono ?_
  rintro e w1 ⟨t, rfl, ot, b1⟩
  obtain ⟨pt, ct, rfl⟩ := own_value ot
  have HT := Lib.hid (And.intro ot b1)
  clear ot b1
  go_wp2_with fail
  go_loopw [8, 9, 14] (fun _ _ i wr => ∃ k : Nat, k ≤ zs.length ∧ i = .int .i64 k ∧ wr.ownsRow w.heap.size 2 1 (.slice pt zs.length ct) zs.length ((mapP (fun z => mulq z a q) zs k).map (Value.int .i64)) ∧ Below w.heap.size w wr) (fun _ _ i _ => zs.length - (intOf i).toNat)
  case atStart => exact ⟨0, Nat.zero_le _, rfl, by rw [mapP_zero]; exact HT.out.1, HT.out.2⟩
  case round =>
    obtain ⟨k, hk, rfl, ov, hB⟩ := hrel
    by_cases hlt : k < zs.length
    · obtain ⟨g, c1, e0, hg1, hg2⟩ := own_some ov (by omega)
      cases e0
      have cv1 := ov.cellAt k (by omega)
      have cf1 := ov.frozenAt k
      rw [List.getElem?_map, mapP_get _ zs k k hlt, if_neg (by omega)] at cv1
      simp only [Option.map_some] at cv1
      have hset := mapP_set (fun z => mulq z a q) zs k hlt
      have hx := HW.out (zs[k]?.getD 0) (by rw [List.getElem?_eq_getElem hlt]; exact List.getElem_mem _)
      have HSET := Lib.hid hset
      have OV := Lib.hid ov
      clear hset ov
      generalize zs[k]?.getD 0 = x at *
      go_wp2_with fail
      refine (mul_any x a q hx.1 hx.2 ha.1 ha.2 _).mono ?_
      rintro e w5 ⟨rfl, b5⟩
      have cf2 := frozen_step b5 cv1 cf1
      have cv2 := cell_step b5 cv1
      have ost := (own_below OV.out b5).stored k (.int .i64 (mulq x a q))
      rw [List.set_map_eq, HSET.out] at ost
      have HX := Lib.hid (And.intro ost.1 ((hB.trans (b5.mono hB.size)).grown ost.2 (Nat.le_trans hB.size b5.size) (fun j e => by cases e; exact hg1)))
      clear ost cv1 cf1 b5
      generalize mulq x a q = p at *
      go_wp2_with fail
      refine ⟨⟨k + 1, by omega, by go_num, HX.out.1, HX.out.2⟩, ?_⟩
      show zs.length - ((k : Int) + 1).toNat < zs.length - ((k : Int)).toNat
      omega
    · have hk' : k = zs.length := by omega
      subst hk'
      rw [mapP_all] at ov
      have OV := Lib.hid ov
      clear ov
      go_wp2_with fail
      go_ret
      exact ⟨_, rfl, OV.out, hB⟩
theorem dot_not {zs ys : List Int} (h : ¬ zs.length = ys.length) (q : Int) : dotV zs ys q = 0 ∧ dotB zs ys = false := by
  unfold dotV dotB
  rw [if_neg h, decide_eq_false h]
  exact ⟨rfl, rfl⟩
theorem dot_yes {zs ys : List Int} (h : zs.length = ys.length) (q : Int) : dotV zs ys q = sumw (prods zs ys q) ∧ dotB zs ys = true := by
  unfold dotV dotB
  rw [if_pos h, decide_eq_true h]
  exact ⟨rfl, rfl⟩
end Go.Proofs.Ytmffgbmjomaehaa
