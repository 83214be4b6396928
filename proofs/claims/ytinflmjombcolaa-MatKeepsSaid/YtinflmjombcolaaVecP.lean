/- Products of vectors. -/
import Derived.Test.YtinflmjombcolaaVecW
import Derived.Test.YtinflmjombcolaaVecR
namespace Go.Proofs.Ytinflmjombcolaa
open Go.RowKit
set_option linter.unusedVariables false
/-- the first k elements are turned by f -/
def mapP (f : Int → Int) (zs : List Int) (k : Nat) : List Int := (zs.take k).map f ++ zs.drop k
theorem mapP_zero (f : Int → Int) (zs : List Int) : mapP f zs 0 = zs := by unfold mapP; simp
theorem mapP_all (f : Int → Int) (zs : List Int) : mapP f zs zs.length = zs.map f := by unfold mapP; simp
theorem mapP_length (f : Int → Int) (zs : List Int) (k : Nat) : (mapP f zs k).length = zs.length := by unfold mapP; simp; omega
theorem mapP_get (f : Int → Int) (zs : List Int) (k i : Nat) (hi : i < zs.length) : (mapP f zs k)[i]? = some (if i < k then f (zs[i]?.getD 0) else zs[i]?.getD 0) := by
  unfold mapP
  by_cases hik : i < k
  · rw [List.getElem?_append_left (by simp; omega), if_pos hik, List.getElem?_map, List.getElem?_take, if_pos hik, List.getElem?_eq_getElem hi]
    rfl
  · rw [List.getElem?_append_right (by simp; omega), if_neg hik, List.getElem?_drop]
    have e : k + (i - ((zs.take k).map f).length) = i := by simp; omega
    rw [e, List.getElem?_eq_getElem hi]
    rfl
theorem mapP_set (f : Int → Int) (zs : List Int) (k : Nat) (hk : k < zs.length) : (mapP f zs k).set k (f (zs[k]?.getD 0)) = mapP f zs (k + 1) := by
  apply List.ext_getElem?
  intro i
  by_cases hi : i < zs.length
  · rw [mapP_get f zs (k + 1) i hi, List.getElem?_set]
    by_cases e : k = i
    · subst e
      rw [if_pos rfl, mapP_length, if_pos hk, if_pos (by omega)]
    · rw [if_neg e, mapP_get f zs k i hi]
      congr 1
      by_cases h1 : i < k
      · rw [if_pos h1, if_pos (by omega)]
      · rw [if_neg h1, if_neg (by omega)]
  · rw [List.getElem?_eq_none (by rw [List.length_set, mapP_length]; omega), List.getElem?_eq_none (by rw [mapP_length]; omega)]
def scaleL (zs : List Int) (a q : Int) : List Int := zs.map fun z => mulq z a q
def prods (zs ys : List Int) (q : Int) : List Int := List.zipWith (fun x y => mulq x y q) zs ys
theorem prods_take (zs ys : List Int) (q : Int) (k : Nat) (h1 : k < zs.length) (h2 : k < ys.length) : prods (zs.take (k + 1)) (ys.take (k + 1)) q = prods (zs.take k) (ys.take k) q ++ [mulq (zs[k]?.getD 0) (ys[k]?.getD 0) q] := by
  unfold prods
  rw [List.take_succ_eq_append_getElem h1, List.take_succ_eq_append_getElem h2, List.zipWith_append (by simp; omega), List.getElem?_eq_getElem h1, List.getElem?_eq_getElem h2]
  rfl
theorem prods_comm (zs ys : List Int) (q : Int) : prods zs ys q = prods ys zs q := by
  unfold prods
  induction zs generalizing ys with
  | nil => simp
  | cons x xs ih =>
    cases ys with
    | nil => simp
    | cons y ys => simp only [List.zipWith_cons_cons, ih, mulq_comm x y]
def dotB (zs ys : List Int) : Bool := decide (zs.length = ys.length)
def dotV (zs ys : List Int) (q : Int) : Int := if zs.length = ys.length then sumw (prods zs ys q) else 0
theorem dot_comm (zs ys : List Int) (q : Int) : dotV zs ys q = dotV ys zs q := by
  unfold dotV
  by_cases h : zs.length = ys.length
  · rw [if_pos h, if_pos h.symm, prods_comm]
  · rw [if_neg h, if_neg (fun e => h e.symm)]
set_option maxHeartbeats 1000000 in
theorem scale_any (v : Value) (zs : List Int) (a q : Int) (ha : Word a) (hw : ∀ z ∈ zs, Word z) (hm : zs.length * 8 ≤ 140737488351232) (w : World) (hv : IntsAt .i64 w.heap.size w v zs) :
    Calls Try.prog 37 #[v, .int .i64 a, .int .i64 q] w (ClonedTo 2 1 zs.length ((scaleL zs a q).map (Value.int .i64)) w) := by
  have HC := Lib.hid (vclone_w v zs hm w.heap.size w (Nat.le_refl _) (.inr hv))
  obtain ⟨pa, c, rfl⟩ := ints_value hv
  have HW := Lib.hid hw
  clear hv hw
  go_enter Try.func37, Try.ntmps37
  go_wp2_with fail
  refine HC.out.mono ?_
  rintro e w1 ⟨t, rfl, ot, b1⟩
  obtain ⟨pt, ct, rfl⟩ := own_value ot
  have HT := Lib.hid (And.intro ot b1)
  clear ot b1
  go_wp2_with fail
  go_loopw [8, 9, 14] (fun _ _ i wr => ∃ k : Nat, k ≤ zs.length ∧ i = .int .i64 k ∧ wr.ownsRow w.heap.size 2 1 (.slice pt zs.length ct) zs.length ((mapP (fun z => mulq z a q) zs k).map (Value.int .i64)) ∧ Below w.heap.size w wr) (fun _ _ i _ => zs.length - (intOf i).toNat)
  case atStart => exact ⟨0, Nat.zero_le _, rfl, by rw [mapP_zero]; exact HT.out.1, HT.out.2⟩
  case round =>
    obtain ⟨k, hk, rfl, ov, hB⟩ := hrel
    by_cases hlt : k < zs.length
    · obtain ⟨g, c1, e0, hg1, hg2⟩ := own_some ov (by omega)
      cases e0
      have cv1 := ov.cellAt k (by omega)
      have cf1 := ov.frozenAt k
      rw [List.getElem?_map, mapP_get _ zs k k hlt, if_neg (by omega)] at cv1
      simp only [Option.map_some] at cv1
      have hset := mapP_set (fun z => mulq z a q) zs k hlt
      have hx := HW.out (zs[k]?.getD 0) (by rw [List.getElem?_eq_getElem hlt]; exact List.getElem_mem _)
      have HSET := Lib.hid hset
      have OV := Lib.hid ov
      clear hset ov
      generalize zs[k]?.getD 0 = x at *
      go_wp2_with fail
      refine (mul_any x a q hx.1 hx.2 ha.1 ha.2 _).mono ?_
      rintro e w5 ⟨rfl, b5⟩
      have cf2 := frozen_step b5 cv1 cf1
      have cv2 := cell_step b5 cv1
      have ost := (own_below OV.out b5).stored k (.int .i64 (mulq x a q))
      rw [List.set_map_eq, HSET.out] at ost
      have HX := Lib.hid (And.intro ost.1 ((hB.trans (b5.mono hB.size)).grown ost.2 (Nat.le_trans hB.size b5.size) (fun j e => by cases e; exact hg1)))
      clear ost cv1 cf1 b5
      generalize mulq x a q = p at *
      go_wp2_with fail
      refine ⟨⟨k + 1, by omega, by go_num, HX.out.1, HX.out.2⟩, ?_⟩
      show zs.length - ((k : Int) + 1).toNat < zs.length - ((k : Int)).toNat
      omega
    · have hk' : k = zs.length := by omega
      subst hk'
      rw [mapP_all] at ov
      have OV := Lib.hid ov
      clear ov
      go_wp2_with fail
      go_ret
      exact ⟨_, rfl, OV.out, hB⟩
theorem dot_not {zs ys : List Int} (h : ¬ zs.length = ys.length) (q : Int) : dotV zs ys q = 0 ∧ dotB zs ys = false := by
  unfold dotV dotB
  rw [if_neg h, decide_eq_false h]
  exact ⟨rfl, rfl⟩
theorem dot_yes {zs ys : List Int} (h : zs.length = ys.length) (q : Int) : dotV zs ys q = sumw (prods zs ys q) ∧ dotB zs ys = true := by
  unfold dotV dotB
  rw [if_pos h, decide_eq_true h]
  exact ⟨rfl, rfl⟩
set_option maxHeartbeats 1000000 in
theorem dot_any (v u : Value) (zs ys : List Int) (q : Int) (hw : ∀ z ∈ zs, Word z) (hw2 : ∀ z ∈ ys, Word z) (hm : zs.length * 8 ≤ 140737488351232) (hm2 : ys.length * 8 ≤ 140737488351232) (w : World) (hv : IntsAt .i64 w.heap.size w v zs) (hu : IntsAt .i64 w.heap.size w u ys) :
    Calls Try.prog 35 #[v, u, .int .i64 q] w fun e w' => e = .returned (.tuple #[.int .i64 (dotV zs ys q), .bool (dotB zs ys)]) ∧ Below w.heap.size w w' := by
  obtain ⟨pa, c, rfl⟩ := ints_value hv
  obtain ⟨pb, d, rfl⟩ := ints_value hu
  by_cases hl : zs.length = ys.length
  · have g1 : ((zs.length : Int) != (ys.length : Int)) = false := by simp [hl]
    have HD := Lib.hid (dot_yes hl q)
    have hl1 : zs.length ≤ ys.length := by omega
    have hl2 : ys.length ≤ zs.length := by omega
    have HV := Lib.hid hv
    have HU := Lib.hid hu
    have HW := Lib.hid hw
    have HW2 := Lib.hid hw2
    have HS0 := Lib.hid sumw_nil
    clear hl hv hu hw hw2
    rw [HD.out.1, HD.out.2]
    go_enter Try.func35, Try.ntmps35
    go_wp2_with fail
    go_loopw [8, 9, 10, 18] (fun t _ _ i wr => ∃ k : Nat, k ≤ zs.length ∧ i = .int .i64 k ∧ t = .int .i64 (sumw (prods (zs.take k) (ys.take k) q)) ∧ Below w.heap.size w wr) (fun _ _ _ i _ => zs.length - (intOf i).toNat)
    case atStart => exact ⟨0, Nat.zero_le _, rfl, by rw [List.take_zero, List.take_zero]; exact congrArg (Value.int .i64) HS0.out.symm, Below.refl _ _⟩
    case round =>
      obtain ⟨k, hk, rfl, rfl, hB⟩ := hrel
      by_cases hlt : k < zs.length
      · rcases HV.out.form with ⟨_, e0⟩ | ⟨b, off, c', e0, hcap, hg, hcs⟩
        · rw [e0] at hlt; simp at hlt
        cases e0
        rcases HU.out.form with ⟨_, e0⟩ | ⟨b', off', c', e0, hcap', hg', hcs'⟩
        · have h9 : ys.length = 0 := by rw [e0]; rfl
          omega
        cases e0
        have c1 := (hB.cell (p := ⟨b, off + k, none⟩) hg).trans (hcs k hlt)
        have c2 := (hB.cell (p := ⟨b', off' + k, none⟩) hg').trans (hcs' k (by omega))
        have hx := HW.out (zs[k]?.getD 0) (by rw [List.getElem?_eq_getElem hlt]; exact List.getElem_mem _)
        have hy := HW2.out (ys[k]?.getD 0) (by rw [List.getElem?_eq_getElem (show k < ys.length by omega)]; exact List.getElem_mem _)
        have hi : (k : Int) < (ys.length : Int) := by omega
        have HP := Lib.hid (prods_take zs ys q k hlt (by omega))
        clear hcs hcs'
        generalize zs[k]?.getD 0 = x at *
        generalize ys[k]?.getD 0 = y at *
        generalize prods (zs.take k) (ys.take k) q = ps at *
        have HSN := Lib.hid (sumw_snoc ps (mulq x y q))
        generalize hT : sumw ps = t at *
        go_wp2_with fail
        refine (mul_any x y q hx.1 hx.2 hy.1 hy.2 _).mono ?_
        rintro e w5 ⟨rfl, b5⟩
        have hB5 := hB.trans (b5.mono hB.size)
        generalize mulq x y q = p at *
        go_wp2_with fail
        refine (sum_any _ [t, p] (by simp) _ (IntsAt.fresh rfl)).mono ?_
        rintro e w6 ⟨rfl, b6⟩
        rw [sumw_two]
        have hB6 := hB5.trans ((below_step ((Below.refl w5.heap.size w5).alloc (Nat.le_refl _) (.cells #[.int .i64 t, .int .i64 p] 2)) b6).mono hB5.size)
        have HSN2 := HSN.out
        generalize wrap64 (t + p) = s at *
        clear b5 b6 hT HSN2
        go_wp2_with fail
        refine ⟨⟨k + 1, by omega, by go_num, by rw [HP.out, HSN.out], hB6⟩, ?_⟩
        show zs.length - ((k : Int) + 1).toNat < zs.length - ((k : Int)).toNat
        omega
      · have hk' : k = zs.length := by omega
        subst hk'
        rw [List.take_length, List.take_of_length_le hl2]
        go_wp2_with fail
        go_ret2
        exact ⟨rfl, hB⟩
  · have g1 : ((zs.length : Int) != (ys.length : Int)) = true := by simp; omega
    have HD := Lib.hid (dot_not hl q)
    clear hl hv hu
    rw [HD.out.1, HD.out.2]
    go_enter Try.func35, Try.ntmps35
    go_wp2_with fail
    go_ret2
    exact ⟨rfl, Below.refl _ _⟩
end Go.Proofs.Ytinflmjombcolaa
