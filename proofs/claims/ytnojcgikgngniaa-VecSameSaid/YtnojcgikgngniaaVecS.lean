/- The sum of vectors. -/
import Derived.Test.YtnojcgikgngniaaVecG
namespace Go.Proofs.Ytnojcgikgngniaa
open Go.RowKit
def alike (z : List Int) (r : List (List Int)) : Bool := r.all fun y => decide (y.length = z.length)
def sumOk : List (List Int) → Bool
  | [] => true
  | z :: r => alike z r
def sumL : List (List Int) → List Int
  | [] => []
  | z :: r => if alike z r then r.foldl addL z else []
theorem foldl_addL_length (z : List Int) (r : List (List Int)) (h : alike z r = true) : (r.foldl addL z).length = z.length := by
  induction r generalizing z with
  | nil => rfl
  | cons y r ih =>
    simp only [alike, List.all_cons, Bool.and_eq_true, decide_eq_true_eq, List.all_eq_true] at h
    have hl := addL_length z y h.1.symm
    rw [List.foldl_cons, ih, hl]
    simp only [alike, List.all_eq_true, decide_eq_true_eq]
    intro x hx
    rw [hl]
    exact h.2 x hx
theorem alike_take {z : List Int} {r : List (List Int)} (h : alike z r = true) (k : Nat) : alike z (r.take k) = true := by
  simp only [alike, List.all_eq_true, decide_eq_true_eq] at *
  exact fun x hx => h x (List.mem_of_mem_take hx)
theorem alike_step {z : List Int} {r : List (List Int)} {k : Nat} (hk : k < r.length) (h : alike z (r.take k) = true) (hy : (r[k]?.getD []).length = z.length) : alike z (r.take (k + 1)) = true := by
  simp only [alike, List.all_eq_true, decide_eq_true_eq] at *
  intro x hx
  rw [List.take_add_one, List.getElem?_eq_getElem hk, List.mem_append] at hx
  rcases hx with hx | hx
  · exact h x hx
  · rw [List.getElem?_eq_getElem hk] at hy
    simp only [Option.toList_some, List.mem_singleton] at hx
    rw [hx]; exact hy
theorem alike_not {z : List Int} {r : List (List Int)} {k : Nat} (hk : k < r.length) (hy : (r[k]?.getD []).length ≠ z.length) : alike z r = false := by
  rw [alike, List.all_eq_false]
  rw [List.getElem?_eq_getElem hk] at hy
  exact ⟨r[k], List.getElem_mem hk, by simpa using hy⟩
theorem foldl_take (z : List Int) (r : List (List Int)) (k : Nat) (hk : k < r.length) : (r.take (k + 1)).foldl addL z = addL ((r.take k).foldl addL z) (r[k]?.getD []) := by
  rw [List.take_add_one, List.foldl_append, List.getElem?_eq_getElem hk]
  rfl
def SumIs (zss : List (List Int)) (w : World) (e : Ending) (w' : World) : Prop :=
  ∃ v, e = .returned (.tuple #[v, .bool (sumOk zss)]) ∧ w'.ownsRow w.heap.size 2 1 v (sumL zss).length ((sumL zss).map (Value.int .i64)) ∧ Below w.heap.size w w'
theorem SumIs.no {z : List Int} {r : List (List Int)} {w w' : World} (h : alike z r = false) (hb : Below w.heap.size w w') : SumIs (z :: r) w (.returned (.tuple #[.slice none 0 0, .bool false])) w' := by
  unfold SumIs sumOk sumL
  simp only [h]
  exact ⟨_, rfl, World.ownsRow_nil _ _ _ _, hb⟩
theorem SumIs.yes {z : List Int} {r : List (List Int)} {v : Value} {w w' : World} (h : alike z r = true) (ho : w'.ownsRow w.heap.size 2 1 v z.length ((r.foldl addL z).map (Value.int .i64))) (hb : Below w.heap.size w w') : SumIs (z :: r) w (.returned (.tuple #[v, .bool true])) w' := by
  unfold SumIs sumOk sumL
  simp only [h, if_true, foldl_addL_length z r h]
  exact ⟨_, rfl, ho, hb⟩
theorem cut1 (b off n c : Nat) (hn : 1 ≤ n) (hc : n ≤ c) : ∃ p q, cutv (some ⟨b, off, none⟩) 1 n c 1 = .slice p (n - 1) q ∧ (1 < n → p = some ⟨b, off + 1, none⟩) := by
  unfold cutv sliced
  by_cases h : c = 1
  · rw [if_pos h]
    exact ⟨_, _, rfl, fun h1 => by omega⟩
  · rw [if_neg h]
    exact ⟨_, _, rfl, fun _ => by simp [Addr.add]⟩
set_option maxHeartbeats 1000000 in
theorem vsum_any (v : Value) (zss : List (List Int)) (hl : zss.length ≤ maxLen) (hm : ∀ zs ∈ zss, zs.length * 8 ≤ 140737488351232) (n₀ : Nat) (w : World) (h0 : n₀ ≤ w.heap.size) (hv : RowsAt .i64 n₀ w v zss) :
    Calls Try.prog 11 #[v] w (SumIs zss w) := by
  unfold maxLen at hl
  cases zss with
  | nil =>
    obtain ⟨a, c, rfl⟩ := hv.value
    clear hv
    go_enter Try.func11, Try.ntmps11
    go_wp2
    go_ret2
    exact ⟨_, rfl, World.ownsRow_nil _ _ _ _, Below.refl _ _⟩
  | cons z r =>
    rcases hv.form with ⟨_, e0⟩ | ⟨b, off, c', rfl, hcap, hg, hcs⟩
    · cases e0
    have HM := Lib.hid hm
    obtain ⟨a0, cz, hc0, hI0⟩ := hcs 0 (by simp)
    simp only [List.getElem?_cons_zero, Option.getD_some, Nat.add_zero] at hc0 hI0
    have HC := Lib.hid (vclone_w (.slice a0 z.length cz) z (hm z (by simp)) n₀ w h0 hI0)
    have HV := Lib.hid hcs
    clear hm hcs hI0 hv
    simp only [List.length_cons] at hl hcap ⊢
    obtain ⟨p, q, hcut, hp⟩ := cut1 b off (r.length + 1) c' (by omega) hcap
    have hcut2 : ∀ W, (Instr.slice 29 (.slice (some ⟨b, off, none⟩) (r.length + 1) c') (some (.int .i64 1)) none none).run Try.prog W = .ok (.slice p r.length q) W := by
      intro W
      have h := run_cut_l (P := Try.prog) (T := 29) (s := 1) (by kernel_rfl) (by intro w; kernel_rfl) (some ⟨b, off, none⟩) (r.length + 1) c' .i64 1 (by omega) (by omega) W
      rw [show (1 : Int).toNat = 1 from rfl, hcut] at h
      exact h
    have HP := Lib.hid hp
    clear hcut hp
    have g1 : ((r.length : Int) + 1 == 0) = false := by simp; omega
    go_enter Try.func11, Try.ntmps11
    go_wp2_with fail
    refine HC.out.mono ?_
    rintro e w1 ⟨t, rfl, ot, b1⟩
    obtain ⟨at', ct, rfl⟩ := own_value ot
    have HS := Lib.hid (And.intro ot b1)
    clear ot b1
    go_wp2_with fail
    go_loopw [7, 20] (fun _ i wr => ∃ k : Nat, k ≤ r.length ∧ i = .int .i64 k ∧ alike z (r.take k) = true ∧ wr.ownsRow w.heap.size 2 1 (.slice at' z.length ct) z.length (((r.take k).foldl addL z).map (Value.int .i64)) ∧ Below w.heap.size w wr) (fun _ i _ => r.length - (intOf i).toNat)
    case atStart => exact ⟨0, Nat.zero_le _, rfl, rfl, HS.out⟩
    case round =>
      obtain ⟨k, hk, rfl, ha, ov, hB⟩ := hrel
      have HA := Lib.hid ha
      by_cases hlt : k < r.length
      · obtain ⟨a, c, hc, hI⟩ := HV.out (k + 1) (by simp; omega)
        simp only [List.getElem?_cons_succ] at hc hI
        have hc := (hB.cell (p := ⟨b, off + (k + 1), none⟩) (Nat.lt_of_lt_of_le hg h0)).trans hc
        rw [show off + (k + 1) = off + 1 + k by omega] at hc
        obtain rfl := HP.out (by omega)
        have hy8 := HM.out (r[k]?.getD []) (by rw [List.getElem?_eq_getElem hlt]; simp)
        have hz8 := HM.out z (by simp)
        have HT := Lib.hid (foldl_take z r k hlt)
        have HAS := Lib.hid (alike_step (z := z) hlt HA.out)
        have HAN := Lib.hid (alike_not (z := z) hlt)
        have hfl := foldl_addL_length z (r.take k) HA.out
        have hI2 := hI.below (hB.mono h0)
        clear ha hI
        generalize r[k]?.getD [] = y at *
        generalize (r.take k).foldl addL z = t at *
        have A := add_any (.slice at' z.length ct) (.slice a y.length c) t y (by omega) hy8 w.heap.size n₀ wr hB.size (by rw [hfl]; exact ov) (Nat.le_trans h0 hB.size) hI2
        have HFL := Lib.hid hfl
        have HAA := Lib.hid A
        have OV := Lib.hid ov
        clear hfl A ov hI2
        by_cases hy : y.length = z.length
        · have HY := Lib.hid hy
          clear hy
          go_wp2_with fail
          refine HAA.out.mono ?_
          intro e w5 hd
          unfold AddedTo at hd
          rw [if_pos (HFL.out.trans HY.out.symm), HFL.out, ← HT.out] at hd
          obtain ⟨rfl, o5, g5⟩ := hd
          have hB5 := hB.grown g5 hB.size (fun k e => (OV.out.lt k e).1)
          have HX := Lib.hid (And.intro o5 hB5)
          clear o5 g5 hB5
          go_wp2_with fail
          refine ⟨⟨k + 1, by omega, by go_num, HAS.out HY.out, HX.out.1, HX.out.2⟩, ?_⟩
          show r.length - ((k : Int) + 1).toNat < r.length - ((k : Int)).toNat
          omega
        · have HY := Lib.hid hy
          clear hy
          go_wp2_with fail
          refine HAA.out.mono ?_
          intro e w5 hd
          unfold AddedTo at hd
          rw [if_neg (by rw [HFL.out]; exact fun e => HY.out e.symm)] at hd
          obtain ⟨rfl, b5⟩ := hd
          have hF : alike z r = false := HAN.out HY.out
          have HF := Lib.hid hF
          clear hF
          go_wp2_with fail
          go_ret2
          exact SumIs.no HF.out (hB.trans (b5.mono hB.size))
      · have hk' : k = r.length := by omega
        subst hk'
        rw [List.take_length] at ov HA
        have OV := Lib.hid ov
        clear ov ha
        go_wp2_with fail
        go_ret2
        exact SumIs.yes HA.out OV.out hB
end Go.Proofs.Ytnojcgikgngniaa
