/- Layer 10: Text, and the chapter's example. -/
import Derived.Test.YtcnabebcckbfkaaDoorDatT
namespace Go.Proofs.YtcnabebcckbfkaaDoor
open Go.RowKit
set_option linter.unusedVariables false
def strB (xs : List Int) (q : Int) : List ByteArray := xs.map fun x => ⟨(textB x q).toArray⟩
theorem strE_B (xs : List Int) (q : Int) : strE xs q = (strB xs q).map Value.string := by simp [strE, strB]
/-- the words of an example -/
def wordsB (xs ys : List Int) (q : Int) : List ByteArray := strB xs q ++ [⟨#[62]⟩] ++ strB ys q
theorem words_flat (xs ys : List Int) (q : Int) : [strE xs q, [.string ⟨#[62]⟩], strE ys q].flatten = (wordsB xs ys q).map Value.string := by
  simp [wordsB, strE_B]
def textX (xs ys : List Int) (q : Int) : List UInt8 := Lib.join ((wordsB xs ys q).map (·.data.toList)) [32]
set_option maxHeartbeats 2000000 in
theorem textX_any (vx vy : Value) (xs ys : List Int) (q : Int) (hx0 : 0 < xs.length) (hy0 : 0 < ys.length) (hlx : xs.length ≤ 1000) (hly : ys.length ≤ 1000)
    (hwx : ∀ z ∈ xs, -9223372036854775808 ≤ z ∧ z ≤ 9223372036854775807) (hwy : ∀ z ∈ ys, -9223372036854775808 ≤ z ∧ z ≤ 9223372036854775807) (hq : 0 ≤ q ∧ q ≤ 62) (hj : (textX xs ys q).length ≤ 140737488355328)
    (w : World) (ht : Pow10 w) (hvx : IntsW .i64 w.heap.size w vx xs) (hvy : IntsW .i64 w.heap.size w vy ys) :
    Calls Tryd.prog 11 #[.agg #[vx, vy], .int .i64 q] w fun e w' => e = .returned (.tuple #[.string ⟨(textX xs ys q).toArray⟩, .bool true]) ∧ Below w.heap.size w w' := by
  obtain ⟨a, c, rfl⟩ := hvx.value
  obtain ⟨a2, c2, rfl⟩ := hvy.value
  have HVX := Lib.hid hvx
  have HVY := Lib.hid hvy
  have HT := Lib.hid ht
  have b0 := (Below.refl w.heap.size w).alloc (Nat.le_refl _) (.cells #[.slice a xs.length c, .slice a2 ys.length c2] 24)
  have x0 := cell_new w #[.slice a xs.length c, .slice a2 ys.length c2] 24 0
  have x1 := cell_new w #[.slice a xs.length c, .slice a2 ys.length c2] 24 1
  simp only [List.getElem?_toArray, List.getElem?_cons_zero, List.getElem?_cons_succ] at x0 x1
  have b1 := (Below.refl (w.alloc (.cells #[.slice a xs.length c, .slice a2 ys.length c2] 24)).heap.size _).alloc (Nat.le_refl _) (.cells #[.int .i64 q] 3)
  have q0 := cell_new (w.alloc (.cells #[.slice a xs.length c, .slice a2 ys.length c2] 24)) #[.int .i64 q] 3 0
  simp only [List.getElem?_toArray, List.getElem?_cons_zero] at q0
  rw [World.size_alloc] at q0
  have c0 := cell_step b1 x0
  have c1 := cell_step b1 x1
  have B1 := Lib.hid (below_step b0 b1)
  have HC := Lib.hid (And.intro c0 (And.intro c1 q0))
  clear b0 b1 x0 x1 q0 c0 c1 hvx hvy ht
  go_enter Tryd.func11, Tryd.ntmps11
  go_upto_region 2 with fail
  generalize (w.alloc (.cells #[.slice a xs.length c, .slice a2 ys.length c2] 24)).alloc (.cells #[.int .i64 q] 3) = w1 at *
  generalize hN : w.heap.size = N at *
  have hNs : N ≤ w1.heap.size := by rw [← hN]; exact (show Below w.heap.size w w1 by rw [hN]; exact B1.out).size
  obtain ⟨c0, c1, q0⟩ := HC.out
  have H2 := Lib.hid (eachW_any _ xs (N + 1) q (by omega) hwx hq w1 (HT.out.later (by rw [hN]; exact B1.out)) q0 ((HVX.out.below B1.out).grow hNs))
  go_wp2_with fail
  refine H2.out.mono ?_
  rintro e w2 ⟨⟨u, rfl, o2⟩, b2⟩
  have O2 := Lib.hid o2
  have HC2 := Lib.hid (And.intro (cell_step b2 c0) (And.intro (cell_step b2 c1) (cell_step b2 q0)))
  have B2 := Lib.hid (B1.out.trans (b2.mono hNs))
  have hNs2 : N ≤ w2.heap.size := by have := b2.size; omega
  clear H2 o2 b2 HC c0 c1 q0 B1
  obtain ⟨ua, uc, rfl⟩ := own_value O2.out
  obtain ⟨c0, c1, q0⟩ := HC2.out
  have H3 := Lib.hid (eachW_any _ ys (N + 1) q (by omega) hwy hq w2 (HT.out.later (by rw [hN]; exact B2.out)) q0 ((HVY.out.below B2.out).grow hNs2))
  go_wp2_with fail
  refine H3.out.mono ?_
  rintro e w3 ⟨⟨u3, rfl, o3⟩, b3⟩
  have O3 := Lib.hid o3
  have O23 := Lib.hid (own_below O2.out b3)
  have B3 := Lib.hid (B2.out.trans (b3.mono hNs2))
  have hNs3 : N ≤ w3.heap.size := by have := b3.size; omega
  clear H3 o3 b3 HC2 c0 c1 q0 B2 O2
  obtain ⟨ua3, uc3, rfl⟩ := own_value O3.out
  have g1 : ((xs.length : Int) == 0) = false := by simp; intro h; rw [h] at hx0; simp at hx0
  have g2 : ((ys.length : Int) == 0) = false := by simp; intro h; rw [h] at hy0; simp at hy0
  have g3 : ¬ (xs.length : Int) = 0 := by omega
  have g4 : ¬ (ys.length : Int) = 0 := by omega
  -- the rows for Concat
  have S1 := Lib.hid (SrcV.own O23.out)
  have S3 := Lib.hid (SrcV.own O3.out)
  go_wp2_with fail
  have b4 := (Below.refl w3.heap.size w3).alloc (Nat.le_refl _) (.cells #[.string ⟨#[62]⟩] 9)
  have y0 := cell_new w3 #[.string ⟨#[62]⟩] 9 0
  simp only [List.getElem?_toArray, List.getElem?_cons_zero] at y0
  have S2 : SrcV (w3.alloc (.cells #[.string ⟨#[62]⟩] 9)) (.slice (some ⟨w3.heap.size, 0, none⟩) 1 1) [.string ⟨#[62]⟩] := .inr ⟨_, _, rfl, fun j y hy => by
    cases j with
    | zero => simp at hy; subst hy; rw [Go.WideShapes.add_plain]; exact y0
    | succ j => simp at hy⟩
  have S1' := S1.out.later b4
  have S3' := S3.out.later b4
  have BB4 := B3.out.trans (b4.mono hNs3)
  have hG4 : (w3.alloc (.cells #[.string ⟨#[62]⟩] 9)).heap.size = w3.heap.size + 1 := World.size_alloc _ _
  generalize w3.alloc (.cells #[.string ⟨#[62]⟩] 9) = w4 at *
  generalize w3.heap.size = G3 at *
  have b5 := (Below.refl w4.heap.size w4).alloc (Nat.le_refl _) (.cells #[.slice ua xs.length uc, .slice (some ⟨G3, 0, none⟩) 1 1, .slice ua3 ys.length uc3] 51)
  have z0 := cell_new w4 #[.slice ua xs.length uc, .slice (some ⟨G3, 0, none⟩) 1 1, .slice ua3 ys.length uc3] 51 0
  have z1 := cell_new w4 #[.slice ua xs.length uc, .slice (some ⟨G3, 0, none⟩) 1 1, .slice ua3 ys.length uc3] 51 1
  have z2 := cell_new w4 #[.slice ua xs.length uc, .slice (some ⟨G3, 0, none⟩) 1 1, .slice ua3 ys.length uc3] 51 2
  simp only [List.getElem?_toArray, List.getElem?_cons_zero, List.getElem?_cons_succ] at z0 z1 z2
  have S1'' := S1'.later b5
  have S2'' := S2.later b5
  have S3'' := S3'.later b5
  have hNs4 : N ≤ w4.heap.size := by have := BB4.size; omega
  have B5 := Lib.hid (BB4.trans (b5.mono hNs4))
  have hrows : RowsV (w4.alloc (.cells #[.slice ua xs.length uc, .slice (some ⟨G3, 0, none⟩) 1 1, .slice ua3 ys.length uc3] 51)) w4.heap.size 3 [strE xs q, [.string ⟨#[62]⟩], strE ys q] := ⟨rfl, fun k h => by
    match k, h with
    | 0, _ => exact ⟨_, z0, S1''⟩
    | 1, _ => exact ⟨_, z1, S2''⟩
    | 2, _ => exact ⟨_, z2, S3''⟩⟩
  have hone : ∀ l ∈ [strE xs q, [.string ⟨#[62]⟩], strE ys q], ∀ y ∈ l, y.oneCell' = true := by
    intro l hl y hy
    have hm : y ∈ [strE xs q, [.string ⟨#[62]⟩], strE ys q].flatten := List.mem_flatten.2 ⟨l, hl, hy⟩
    rw [words_flat] at hm
    obtain ⟨t, _, rfl⟩ := List.mem_map.1 hm
    rfl
  have hwl : (wordsB xs ys q).length = xs.length + 1 + ys.length := by simp [wordsB, strB]; omega
  have htot : totV [strE xs q, [.string ⟨#[62]⟩], strE ys q] = xs.length + 1 + ys.length := by
    unfold totV
    rw [words_flat, List.length_map, hwl]
  have hsz5 : w4.heap.size < (w4.alloc (.cells #[.slice ua xs.length uc, .slice (some ⟨G3, 0, none⟩) 1 1, .slice ua3 ys.length uc3] 51)).heap.size := by rw [World.size_alloc]; omega
  have HCC := Lib.hid (concatS_any w4.heap.size 3 3 [strE xs q, [.string ⟨#[62]⟩], strE ys q] (by omega) (Nat.le_refl 3) hone (by rw [htot]; omega) _ hsz5 hrows)
  rw [words_flat, htot] at HCC
  unfold ClonedTo at HCC
  rw [hG4] at HCC
  have hNs5 : N ≤ (w4.alloc (.cells #[.slice ua xs.length uc, .slice (some ⟨G3, 0, none⟩) 1 1, .slice ua3 ys.length uc3] 51)).heap.size := by omega
  clear S1 S3 b4 y0 S2 S1' S3' BB4 b5 z0 z1 z2 S1'' S2'' S3'' hrows hone htot O3 O23 B3 HVX HVY HT
  refine HCC.out.mono ?_
  rintro e w6 ⟨v6, rfl, o6, b6⟩
  have B6 := Lib.hid (B5.out.trans (b6.mono hNs5))
  have HWL := Lib.hid hwl
  obtain ⟨g6, c6, rfl, hg6, hg6'⟩ := own_some o6 (by omega)
  have HCL := Lib.hid (fun (j : Nat) (x : ByteArray) (hx : (wordsB xs ys q)[j]? = some x) => (o6.cellAt j (by
    have h : j < (wordsB xs ys q).length := by
      apply Nat.lt_of_not_le; intro hge
      rw [List.getElem?_eq_none hge] at hx; cases hx
    rw [HWL.out] at h; omega)).trans (show ((wordsB xs ys q).map Value.string)[j]? = some (.string x) by rw [List.getElem?_map, hx]; rfl))
  have hcap2 : xs.length + 1 + ys.length ≤ c6 := by
    rcases o6.2 with ⟨e, _⟩ | ⟨g, c, cur, e, hc, _⟩
    · cases e
    · cases e; first | exact hc | omega
  have HJ := Lib.hid (Tryd.strings_Join g6 0 c6 (wordsB xs ys q) ⟨#[32]⟩ w6 (fun j x hx => by rw [Nat.zero_add]; exact HCL.out j x hx) hg6' (by rw [HWL.out]; omega) (by rw [HWL.out]; exact hcap2) hj)
  rw [HWL.out] at HJ
  clear HCC o6 b6 B5 HCL hwl hcap2 hsz5 hNs5
  go_wp2_with fail
  refine HJ.out.mono ?_
  rintro e w7 ⟨rfl, b7⟩
  have B7 := B6.out.trans (b7.mono (by have := B6.out.size; omega))
  rw [← hN] at B7
  clear HJ B6 b7 HWL
  go_wp2_with fail
  go_ret2
  exact ⟨rfl, B7⟩
theorem alive10_any (w : World) (ht : Pow10 w) : Calls Tryd.prog 10 #[] w fun e w' => e = .returned (.bool true) ∧ Below w.heap.size w w' := by
  have HT := Lib.hid ht
  have b1 := (Below.refl w.heap.size w).alloc (Nat.le_refl _) (.cells #[.int .i64 3, .int .i64 2] 2)
  have v1 : IntsAt .i64 (w.alloc (.cells #[.int .i64 3, .int .i64 2] 2)).heap.size _ (.slice (some ⟨w.heap.size, 0, none⟩) 2 2) [3, 2] := IntsAt.fresh rfl
  have b2 := (Below.refl (w.alloc (.cells #[.int .i64 3, .int .i64 2] 2)).heap.size _).alloc (Nat.le_refl _) (.cells #[.int .i64 (-1)] 2)
  have v2 : ∀ n, n = (w.alloc (.cells #[.int .i64 3, .int .i64 2] 2)).heap.size → IntsAt .i64 ((w.alloc (.cells #[.int .i64 3, .int .i64 2] 2)).alloc (.cells #[.int .i64 (-1)] 2)).heap.size ((w.alloc (.cells #[.int .i64 3, .int .i64 2] 2)).alloc (.cells #[.int .i64 (-1)] 2)) (.slice (some ⟨n, 0, none⟩) 1 1) [-1] := by
    rintro n rfl
    exact IntsAt.fresh rfl
  have v1' := v1.later b2
  have B2 := Lib.hid (below_step b1 b2)
  have H := Lib.hid (textX_any _ _ [3, 2] [-1] 1 (by decide) (by decide) (by decide) (by decide) (by decide) (by decide) (by decide) (by decide +kernel) _ (ht.later B2.out) (.inr v1') (.inr (v2 (w.heap.size + 1) (World.size_alloc _ _).symm)))
  rw [show textX [3, 2] [-1] 1 = [49, 46, 53, 32, 49, 32, 62, 32, 45, 48, 46, 53] by decide +kernel] at H
  clear b1 v1 b2 v2 v1' ht
  go_enter Tryd.func10, Tryd.ntmps10
  go_wp2_with fail
  refine H.out.mono ?_
  rintro e w3 ⟨rfl, b3⟩
  have B3 := B2.out.trans (b3.mono B2.out.size)
  clear B2 H b3
  go_wp2_with fail
  go_ret
  exact ⟨by first | rfl | (simp; done), B3⟩
end Go.Proofs.YtcnabebcckbfkaaDoor
