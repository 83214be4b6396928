/- The walk of VecSums. -/
import Derived.Test.YtnojcgikgngniaaVecT
import Derived.Lib.OwnBridge
import Derived.Test.YtnojcgikgngniaaVecW
namespace Go.Proofs.Ytnojcgikgngniaa
open Go.RowKit Go.Shelf
def vrevRen : Go.Shelf.Ren := ⟨fun | 35 => 15 | n => n, fun | 22 => 29 | 23 => 26 | 3 => 3 | 4 => 4 | 0 => 0 | n => n, fun | n => n⟩
theorem vrevLays : Go.Proofs.SlLaysE.n35 Try.prog vrevRen := {
  mixed := by kernel_rfl
  f35 := ⟨Try.f15.name, by decide, Try.func15.trans (congrArg some (by kernel_rfl))⟩
  t0 := Try.underlying0
  a0 := Try.isAgg0
  z0 := Try.sizeOf0
  v0 := Try.zeroValue0
  t3 := Try.underlying3
  a3 := Try.isAgg3
  z3 := Try.sizeOf3
  v3 := Try.zeroValue3
  t4 := Try.underlying4
  a4 := Try.isAgg4
  z4 := Try.sizeOf4
  v4 := Try.zeroValue4
  t22 := Try.underlying29
  a22 := Try.isAgg29
  z22 := Try.sizeOf29
  v22 := Try.zeroValue29
  a23 := Try.isAgg26
  z23 := Try.sizeOf26 }
def TurnedRows (base n₀ : Nat) (v : Value) (zss : List (List Int)) (e : Ending) (w' : World) (w : World) : Prop := e = .returned (.tuple #[]) ∧ OwnRows base n₀ w' v zss ∧ Below base w w'
theorem vreverse_any (base n₀ : Nat) (v : Value) (zss : List (List Int)) (hl : zss.length ≤ maxLen) (w : World) (h0 : n₀ ≤ base) (ho : OwnRows base n₀ w v zss) :
    Calls Try.prog 15 #[v] w fun e w' => TurnedRows base n₀ v zss.reverse e w' w := by
  unfold maxLen at hl
  obtain ⟨rs, hrl, ho, hr⟩ := ho
  by_cases hv : v = .slice none 0 0
  · have hn : zss.length = 0 := by
      rcases ho.2 with ⟨_, h⟩ | ⟨g, cap, cur, e, _⟩
      · exact h
      · rw [hv] at e; cases e
    have hz : zss = [] := List.length_eq_zero_iff.1 hn
    subst hv hz
    refine (AnyE.slices_Reverse_empty vrevLays none 0 w).mono ?_
    rintro e w' ⟨rfl, rfl⟩
    exact ⟨rfl, ⟨rs, hrl, ho, hr⟩, Below.refl _ _⟩
  · obtain ⟨g, cap, rfl, hg, hlt, hn, hm, hl', hH⟩ := Go.Lib.holds_of_ownsRow ho hv
    have hrv := AnyE.slices_Reverse vrevLays encS (fun _ => rfl) g 0 cap rs w hH (by omega)
    rw [hrl] at hrv
    refine hrv.mono ?_
    rintro e w' ⟨rfl, q, hw'⟩
    have h1 := Go.Lib.ownsRow_putRow (q := q) (k := zss.length) (ys := rs.reverse) ho (by simpa using hrl) (Nat.le_refl _)
    rw [List.take_of_length_le (by simp; omega)] at h1
    have hB : Below base w w' := by rw [hw']; exact Go.Lib.below_putRow (Below.refl _ _) hg
    rw [← hw'] at h1
    refine ⟨rfl, ⟨rs.reverse, by simpa using hrl, by rw [List.length_reverse]; exact h1, fun j x zs hx hz => ?_⟩, hB⟩
    have hj : j < rs.length := by have := (List.getElem?_eq_some_iff.1 hx).1; simpa using this
    rw [List.getElem?_reverse hj] at hx
    rw [List.getElem?_reverse (by omega)] at hz
    rw [← hrl] at hz
    exact (hr _ x zs hx hz).below (hB.mono h0)
theorem RowsAt.take {q : IntKind} {n₀ n k c : Nat} {p : Option Addr} {w : World} {zss : List (List Int)} (hk : k ≤ zss.length) (h : RowsAt q n₀ w (.slice p n c) zss) : RowsAt q n₀ w (.slice p k c) (zss.take k) := by
  obtain ⟨vs, hl, hs, hr⟩ := h
  have hn : n = zss.length := by
    rcases hs.2 with ⟨e, h⟩ | ⟨b, off, cap, e, _⟩
    · cases e; exact h.symm
    · cases e; rfl
  subst hn
  have h1 := SliceAt.take hk hs
  rw [Nat.mul_one] at h1
  refine ⟨vs.take k, by simp [hl], by rw [List.length_take, Nat.min_eq_left hk]; exact h1, fun j u zs hu hz => ?_⟩
  rw [List.getElem?_take] at hu hz
  split at hu
  · rename_i hj
    rw [if_pos hj] at hz
    exact hr j u zs hu hz
  · cases hu
theorem RowsAt.drop {q : IntKind} {n₀ n k c : Nat} {p : Option Addr} {w : World} {zss : List (List Int)} (hk : k ≤ zss.length) (h : RowsAt q n₀ w (.slice p n c) zss) : RowsAt q n₀ w (cutv p k n c 1) (zss.drop k) := by
  obtain ⟨vs, hl, hs, hr⟩ := h
  have hn : n = zss.length := by
    rcases hs.2 with ⟨e, h⟩ | ⟨b, off, cap, e, _⟩
    · cases e; exact h.symm
    · cases e; rfl
  subst hn
  have h1 := SliceAt.cut hk (Nat.le_refl _) hs
  rw [Nat.mul_one, Nat.mul_one, List.take_of_length_le (by omega)] at h1
  refine ⟨vs.drop k, by simp [hl], by rw [List.length_drop]; exact h1, fun j u zs hu hz => ?_⟩
  rw [List.getElem?_drop] at hu hz
  exact hr _ u zs hu hz
theorem OwnRows.snoc {base n₀ n₁ : Nat} {w w' : World} {v' : Value} {zss : List (List Int)} {x : Option Addr × Nat × Nat} {zs : List Int} {rs : List (Option Addr × Nat × Nat)} (hrl : rs.length = zss.length) (hr : ∀ (j : Nat) (x : Option Addr × Nat × Nat) (zs : List Int), rs[j]? = some x → zss[j]? = some zs → IntsW .i64 n₀ w (encS x) zs)
    (h01 : n₀ ≤ n₁) (hb : Below n₁ w w') (hx : IntsW .i64 n₁ w (encS x) zs) (ho : w'.ownsRow base 26 1 v' (zss.length + 1) (rs.map encS ++ [encS x])) : OwnRows base n₁ w' v' (zss ++ [zs]) := by
  refine ⟨rs ++ [x], by simp [hrl], ?_, ?_⟩
  · rw [List.length_append, List.map_append]; exact ho
  · intro j x' zs' hx' hz'
    by_cases hj : j < zss.length
    · rw [List.getElem?_append_left (by omega)] at hx'
      rw [List.getElem?_append_left hj] at hz'
      exact ((hr j x' zs' hx' hz').grow h01).below hb
    · have hjk : j = zss.length := by
        have h1 := (List.getElem?_eq_some_iff.1 hx').1
        simp at h1; omega
      subst hjk
      rw [List.getElem?_append_right (by omega)] at hx'
      rw [List.getElem?_append_right (by omega)] at hz'
      rw [hrl, Nat.sub_self] at hx'
      rw [Nat.sub_self] at hz'
      simp at hx' hz'
      subst hx' hz'
      exact hx.below hb
set_option maxHeartbeats 2000000 in
theorem walk_sums (v : Value) (zss : List (List Int)) (n : Int) (hn : 0 ≤ n ∧ n ≤ 255) (hw : ∀ zs ∈ zss, ∀ z ∈ zs, -9223372036854775808 ≤ z ∧ z ≤ 9223372036854775807) (w : World) (hl : zss.length ≤ maxLen) (hm : ∀ zs ∈ zss, zs.length ≤ maxLen) (hv : RowsAt .i64 w.heap.size w v zss) :
    Calls Try.prog 3 #[v, .int .u8 n] w fun e w' => e = .returned (.bool true) ∧ Below w.heap.size w w' := by
  obtain ⟨a, c, rfl⟩ := hv.value
  have HF := Lib.hid (few_any _ zss hl hm _ w hv)
  have HV := Lib.hid hv
  cases hf : fewB zss
  · rw [hf] at HF
    clear hf hv hw hl hm
    go_enter Try.func3, Try.ntmps3
    go_wp2_with fail
    refine HF.out.mono ?_
    rintro e w1 ⟨rfl, rfl⟩
    go_wp2_with fail
    refine (alive_any _).mono ?_
    rintro e w2 ⟨rfl, b2⟩
    go_wp2_with fail
    go_ret
    exact ⟨rfl, b2⟩
  · obtain ⟨hs, hs2⟩ := fewB_true hf
    have hm8 : Hid (∀ zs ∈ zss, zs.length * 8 ≤ 140737488351232) := Lib.hid (fun zs hz => by have := hs2 zs hz; omega)
    have hlm : Hid (zss.length ≤ maxLen) := Lib.hid hl
    have HW := Lib.hid (show ∀ zs ∈ zss, ∀ z ∈ zs, Word z from hw)
    rw [hf] at HF
    have HS2 := Lib.hid hs2
    clear hf hv hw hl hm hs2
    go_enter Try.func3, Try.ntmps3
    go_wp2_with fail
    refine HF.out.mono ?_
    rintro e w0 ⟨rfl, rfl⟩
    go_wp2_with fail
    refine (given_any _ zss (by omega) _ _ (Nat.le_refl _) HV.out).mono ?_
    rintro e w1 ⟨v1, rfl, g1, b1⟩
    have G1 := Lib.hid (g1.rows b1.size)
    obtain ⟨a1, c1, rfl⟩ := G1.out.value
    clear g1
    go_wp2_with fail
    refine (vsum_any _ zss hlm.out hm8.out _ _ (Nat.le_refl _) G1.out).mono ?_
    rintro e w2 ⟨v2, rfl, o2, b2⟩
    have B2 := below_step b1 b2
    obtain ⟨a2, c2, rfl⟩ := own_value o2
    have S2 := Lib.hid (ints_own o2)
    clear o2
    generalize hok : sumOk zss = ok at *
    have HOK := Lib.hid hok
    clear hok
    go_wp2_with fail
    refine (refSum_any _ zss hlm.out hm8.out HW.out _ _ (Nat.le_refl _) (HV.out.later B2)).mono ?_
    rintro e w3 ⟨v3, rfl, o3, b3⟩
    have B3 := below_step B2 b3
    obtain ⟨a3, c3, rfl⟩ := own_value o3
    have S3 := Lib.hid (ints_own o3)
    have S2' := Lib.hid (S2.out.later b3)
    clear o3
    rw [HOK.out]
    have hlen : Hid ((sumL zss).length ≤ 1500) := by
      refine Lib.hid ?_
      cases zss with
      | nil => simp [sumL]
      | cons z r =>
        simp only [sumL]
        split
        · rename_i h
          rw [foldl_addL_length z r h]
          exact HS2.out z (by simp)
        · simp
    generalize hss : sumL zss = ss at *
    have HSS := Lib.hid hss
    have hneq : (ok != ok) = false := by simp
    clear hss
    go_wp2_with fail
    refine (refSame_any _ _ ss ss (by have := hlen.out; omega) (by have := hlen.out; omega) _ S2'.out S3.out).mono ?_
    rintro e w4 ⟨rfl, b4⟩
    rw [sameL_self]
    have B4 := below_step B3 b4
    have S4 := Lib.hid (S3.out.later b4)
    cases ok
    · go_wp2_with fail
      refine (alive_any _).mono ?_
      rintro e w5 ⟨rfl, b5⟩
      go_wp2_with fail
      go_ret
      exact ⟨rfl, below_step B4 b5⟩
    · rcases Nat.eq_zero_or_pos zss.length with h0 | h0
      · have g1 : ((zss.length : Int) == 0) = true := by simp [h0]
        clear h0
        go_wp2_with fail
        refine (alive_any _).mono ?_
        rintro e w5 ⟨rfl, b5⟩
        go_wp2_with fail
        go_ret
        exact ⟨rfl, below_step B4 b5⟩
      · have g1 : ((zss.length : Int) == 0) = false := by simp; intro e; simp [e] at h0
        obtain ⟨L, hL⟩ : ∃ L, AllLen L zss := by
          cases zss with
          | nil => simp at h0
          | cons z r => exact ⟨_, sumOk_all HOK.out⟩
        have hvs := (sum_of_all hL).2
        rw [HSS.out] at hvs
        obtain ⟨k, hk⟩ : ∃ k : Nat, (k : Int) = 1 + n % (zss.length : Int) := ⟨(1 + n % (zss.length : Int)).toNat, by have := Int.emod_nonneg n (show (zss.length : Int) ≠ 0 by omega); omega⟩
        have hk1 : 0 < k ∧ k ≤ zss.length := by
          have := Int.emod_nonneg n (show (zss.length : Int) ≠ 0 by omega)
          have := Int.emod_lt_of_pos n (show (0 : Int) < (zss.length : Int) by omega)
          omega
        have hr1 := sum_of_all (l := zss.reverse) (n := L) (fun y hy => hL y (by simpa using hy))
        have hr2 := sum_of_all (l := zss.take k) (n := L) (fun y hy => hL y (List.mem_of_mem_take hy))
        have hlt : (vS (zss.take k)).length = L := vS_len (fun y hy => hL y (List.mem_of_mem_take hy)) (List.ne_nil_of_length_pos (by rw [List.length_take]; omega))
        have hr3 := sum_of_all (l := zss.drop k ++ [vS (zss.take k)]) (n := L) (fun y hy => by
          rcases List.mem_append.1 hy with hy | hy
          · exact hL y (List.mem_of_mem_drop hy)
          · simp at hy; rw [hy]; exact hlt)
        have hL1500 : L ≤ 1500 := by
          cases zss with
          | nil => simp at h0
          | cons z r => rw [← hL z (by simp)]; exact HS2.out z (by simp)
        rw [vS_reverse, ← hvs] at hr1
        rw [vS_split zss k hk1.1 hk1.2, ← hvs] at hr3
        have m1 : Hid (∀ zs ∈ zss.reverse, zs.length * 8 ≤ 140737488351232) := Lib.hid (fun zs hz => hm8.out zs (by simpa using hz))
        have m2 : Hid (∀ zs ∈ zss.take k, zs.length * 8 ≤ 140737488351232) := Lib.hid (fun zs hz => hm8.out zs (List.mem_of_mem_take hz))
        have m3 : Hid (∀ zs ∈ zss.drop k ++ [vS (zss.take k)], zs.length * 8 ≤ 140737488351232) := Lib.hid (fun zs hz => by
          rcases List.mem_append.1 hz with hz | hz
          · exact hm8.out zs (List.mem_of_mem_drop hz)
          · simp at hz; rw [hz, hlt]; omega)
        have HR1 := Lib.hid hr1
        have HR2 := Lib.hid hr2
        have HR3 := Lib.hid hr3
        have HLT := Lib.hid hlt
        have hmod := Lib.hid hk.symm
        obtain ⟨hk0, hkl⟩ := hk1
        have HTK : Hid (∀ W, Below w.heap.size w W → RowsAt .i64 W.heap.size W (.slice a k c) (zss.take k)) := Lib.hid (fun W hW => (HV.out.later hW).take hkl)
        have HDK : Hid (∀ W, Below w.heap.size w W → RowsAt .i64 W.heap.size W (cutv a k zss.length c 1) (zss.drop k)) := Lib.hid (fun W hW => (HV.out.later hW).drop hkl)
        have htk : (zss.take k).length ≤ 60 := by rw [List.length_take]; omega
        have hdk : (zss.drop k).length ≤ 60 := by rw [List.length_drop]; omega
        clear hr1 hr2 hr3 hL hvs hlt hk
        generalize zss.take k = tk at *
        generalize zss.drop k = dk at *
        go_wp2_with fail
        refine (given_any _ zss (by omega) _ _ (Nat.le_refl _) (HV.out.later B4)).mono ?_
        rintro e w5 ⟨v5, rfl, g5, b5⟩
        have hv5 := g5
        obtain ⟨a5, c5, rfl⟩ := (g5.rows b5.size).value
        have B5 := below_step B4 b5
        have S5 := Lib.hid (S4.out.later b5)
        have G5 := Lib.hid g5
        clear g5 hv5
        go_wp2_with fail
        refine (vreverse_any _ _ _ zss hlm.out _ (Nat.le_refl _) G5.out).mono ?_
        rintro e w6 ⟨rfl, g6, b6⟩
        have hz6 : w4.heap.size ≤ w6.heap.size := Nat.le_trans b5.size b6.size
        have B6 := B5.trans (b6.mono B4.size)
        have S6 := Lib.hid (((S4.out.below (b5.trans b6)).grow hz6))
        have G6 := Lib.hid (g6.rows hz6)
        clear g6
        go_wp2_with fail
        refine (vsum_any _ zss.reverse (by rw [List.length_reverse]; exact hlm.out) m1.out _ _ (Nat.le_refl _) G6.out).mono ?_
        intro e w7 hd
        unfold SumIs at hd
        rw [HR1.out.1, HR1.out.2] at hd
        obtain ⟨t7, rfl, o7, b7⟩ := hd
        obtain ⟨a7, c7, rfl⟩ := own_value o7
        have T7 := Lib.hid (ints_own o7)
        have S7 := Lib.hid (S6.out.later b7)
        have B7 := below_step B6 b7
        have hkc : k ≤ c := by
          rcases HV.out.form with ⟨_, e0⟩ | ⟨b, off, c', e0, hcap, _⟩
          · rw [e0] at h0; simp at h0
          · cases e0; omega
        have hcut1 : ∀ W, (Instr.slice 22 (.slice a zss.length c) none (some (.int .i64 (k : Int))) none).run Try.prog W = .ok (.slice a k c) W := by
          intro W
          have h := run_cut_h (P := Try.prog) (T := 22) (s := 1) (by kernel_rfl) (by intro w; kernel_rfl) a zss.length c .i64 (k : Int) (by omega) (by omega) W
          rw [cut0] at h
          simpa using h
        have hcut2 : ∀ W, (Instr.slice 22 (.slice a zss.length c) (some (.int .i64 (k : Int))) none none).run Try.prog W = .ok (cutv a k zss.length c 1) W := by
          intro W
          have h := run_cut_l (P := Try.prog) (T := 22) (s := 1) (by kernel_rfl) (by intro w; kernel_rfl) a zss.length c .i64 (k : Int) (by omega) (by omega) W
          simpa using h
        have hmo := hmod.out
        have hi0 : (0 : Int) < (zss.length : Int) := by omega
        have hi1 : (zss.length : Int) ≤ 60 := by omega
        have hi2 := Int.emod_nonneg n (show (zss.length : Int) ≠ 0 by omega)
        have hi3 := Int.emod_lt_of_pos n (show (0 : Int) < (zss.length : Int) by omega)
        clear b5 b6 b7 o7
        go_wp2_with fail
        refine (given_any _ tk (by omega) _ _ (Nat.le_refl _) (HTK.out _ B7)).mono ?_
        rintro e w8 ⟨v8, rfl, g8, b8⟩
        have G8 := Lib.hid (g8.rows b8.size)
        obtain ⟨a8, c8, rfl⟩ := G8.out.value
        have B8 := below_step B7 b8
        have T8 := Lib.hid (T7.out.later b8)
        have S8 := Lib.hid (S7.out.later b8)
        clear g8 b8
        go_wp2_with fail
        refine (vsum_any _ tk (by unfold maxLen; omega) m2.out _ _ (Nat.le_refl _) G8.out).mono ?_
        intro e w9 hd
        unfold SumIs at hd
        rw [HR2.out.1, HR2.out.2] at hd
        obtain ⟨v9, rfl, o9, b9⟩ := hd
        obtain ⟨a9, c9, rfl⟩ := own_value o9
        have A9 := Lib.hid (ints_own o9)
        have B9 := below_step B8 b9
        have T9 := Lib.hid (T8.out.later b9)
        have S9 := Lib.hid (S8.out.later b9)
        clear o9 b9
        go_wp2_with fail
        refine (given_any _ dk (by omega) _ _ (Nat.le_refl _) (HDK.out _ B9)).mono ?_
        rintro e w10 ⟨v10, rfl, ⟨rs, hrl, o10, hr10⟩, b10⟩
        have A10 := Lib.hid (A9.out.below b10)
        have BB := Lib.hid b10
        have O10 := Lib.hid o10
        have R10 := Lib.hid (And.intro hrl hr10)
        have hz10 := b10.size
        obtain ⟨a10, c10, rfl⟩ := own_value o10
        clear o10 hrl hr10 b10
        have elV := elemV
        go_wp2_with (at_builtin; refine append_one elV rfl _ _ rfl rfl rfl O10.out rfl ?_ ?_ ?_ ?_ ?_; (simp [Value.oneCell']); (unfold maxLen; omega); omega; (exact hz10); intro v' w' ho' hg'; have hg2 := Lib.hid hg'; clear hg'; have HO' := Lib.hid ho'; clear ho')
        have hBw := (Below.refl w9.heap.size w10).grown hg2.out hz10 (fun k e => (O10.out.lt k e).1)
        have hG : OwnRows w9.heap.size w9.heap.size w' v' (dk ++ [vS tk]) := OwnRows.snoc R10.out.1 R10.out.2 (Nat.le_refl _) hBw (x := (a9, (vS tk).length, c9)) (.inr A10.out) HO'.out
        have b11 := BB.out.trans hBw
        have G11 := Lib.hid (hG.rows b11.size)
        have B11 := below_step B9 b11
        have T11 := Lib.hid (T9.out.later b11)
        have S11 := Lib.hid (S9.out.later b11)
        obtain ⟨a11, c11, rfl⟩ := G11.out.value
        clear hG b11 hBw
        refine (vsum_any _ (dk ++ [vS tk]) (by rw [List.length_append]; simp [maxLen]; omega) m3.out _ _ (Nat.le_refl _) G11.out).mono ?_
        intro e w12 hd
        unfold SumIs at hd
        rw [HR3.out.1, HR3.out.2] at hd
        obtain ⟨v12, rfl, o12, b12⟩ := hd
        obtain ⟨a12, c12, rfl⟩ := own_value o12
        have T12 := Lib.hid (T11.out.later b12)
        have S12 := Lib.hid (S11.out.later b12)
        have P12 := Lib.hid (ints_own o12)
        have B12 := below_step B11 b12
        have hl1500 := hlen.out
        clear o12 b12
        go_wp2_with fail
        refine (alive_any _).mono ?_
        rintro e w13 ⟨rfl, b13⟩
        have B13 := below_step B12 b13
        go_wp2_with fail
        refine (refSame_any _ _ ss ss (by omega) (by omega) _ (T12.out.later b13) (S12.out.later b13)).mono ?_
        rintro e w14 ⟨rfl, b14⟩
        rw [sameL_self]
        have B14 := below_step B13 b14
        go_wp2_with fail
        refine (refSame_any _ _ ss ss (by omega) (by omega) _ ((P12.out.later b13).later b14) ((S12.out.later b13).later b14)).mono ?_
        rintro e w15 ⟨rfl, b15⟩
        rw [sameL_self]
        go_wp2_with fail
        go_ret
        exact ⟨by first | rfl | (simp; done), below_step B14 b15⟩
end Go.Proofs.Ytnojcgikgngniaa
