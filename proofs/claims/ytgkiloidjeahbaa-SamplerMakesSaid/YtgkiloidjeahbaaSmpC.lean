/- Layer 12: the reference's piece; clones; a sampler in memory; Epoch, batch, Batch, Shard, Micro. -/
import Derived.Test.YtgkiloidjeahbaaSmpB
namespace Go.Proofs.Ytgkiloidjeahbaa
open Go.RowKit
set_option linter.unusedVariables false
theorem refPiece_any (v : Value) (l : List Int) (hl : l.length ≤ 1048576) (i k : Int) (hk0 : -9223372036854775808 ≤ k) (hk : k ≤ 1048576) (w : World) (hv : IntsAt .i64 w.heap.size w v l) :
    Calls Try.prog 31 #[v, .int .i64 i, .int .i64 k] w (PartOf (pieceL l i k) w) := by
  have HE := Lib.hid (fun W => refEven_any (l.length : Int) k (by omega) hk (by omega) hk0 W)
  have hc := (show ∀ a n c, IntsAt .i64 w.heap.size w (.slice a n c) l → l.length ≤ c from fun a n c h => h.cap)
  obtain ⟨a, c, rfl⟩ := ints_value hv
  have hc := hc _ _ _ hv
  have HV := Lib.hid hv
  have hlen : ((evenR (l.length : Int) k).length : Int) = if 0 < k then k else 0 := by
    by_cases h : 0 < k
    · rw [if_pos h, evenR_length _ _ (by omega) h]; omega
    · rw [if_neg h, evenR_out _ _ (by omega)]; rfl
  clear hv
  by_cases h1 : i < 0
  · have g1 : decide (i < 0) = true := by simpa using h1
    have H := Lib.hid (pieceL_no (l := l) (i := i) (k := k) (.inl h1))
    clear hlen
    generalize evenR (l.length : Int) k = rs at *
    go_enter Try.func31, Try.ntmps31
    go_wp2_with fail
    refine (HE.out _).mono ?_
    rintro e w1 ⟨v1, rfl, o1, b1⟩
    obtain ⟨a1, c1, rfl⟩ := own_value o1
    clear o1 HE HV
    go_wp2_with fail
    go_ret
    rw [H.out]
    exact ⟨_, rfl, IntsAt.nil, b1⟩
  · have g1 : decide (i < 0) = false := by simpa using h1
    obtain ⟨i, rfl⟩ := Int.eq_ofNat_of_zero_le (show 0 ≤ i by omega)
    by_cases h2 : k ≤ i
    · have H := Lib.hid (pieceL_no (l := l) (i := i) (k := k) (.inr h2))
      have g2 : decide (((evenR (l.length : Int) k).length : Int) ≤ (i : Int)) = true := by
        have : ((evenR (l.length : Int) k).length : Int) ≤ (i : Int) := by rw [hlen]; split <;> omega
        simpa using this
      have g3 : (evenR (l.length : Int) k).length ≤ i := by
        have : ((evenR (l.length : Int) k).length : Int) ≤ (i : Int) := by rw [hlen]; split <;> omega
        omega
      clear hlen
      generalize evenR (l.length : Int) k = rs at *
      go_enter Try.func31, Try.ntmps31
      go_wp2_with fail
      refine (HE.out _).mono ?_
      rintro e w1 ⟨v1, rfl, o1, b1⟩
      obtain ⟨a1, c1, rfl⟩ := own_value o1
      clear o1 HE HV
      go_wp2_with fail
      go_ret
      rw [H.out]
      exact ⟨_, rfl, IntsAt.nil, b1⟩
    · have hik : (i : Int) < k := by omega
      have H := Lib.hid (pieceL_yes (l := l) hik)
      have R := pieceL_range (l := l) hik
      obtain ⟨k, rfl⟩ := Int.eq_ofNat_of_zero_le (show 0 ≤ k by omega)
      rw [if_pos (by omega)] at hlen
      have hlen' : (evenR (l.length : Int) k).length = k := by omega
      have hin : i < (evenR (l.length : Int) k).length := by omega
      have g2 : decide (((evenR (l.length : Int) k).length : Int) ≤ (i : Int)) = false := by simp; omega
      obtain ⟨x, hx⟩ := Int.eq_ofNat_of_zero_le R.1
      obtain ⟨y, hy⟩ := Int.eq_ofNat_of_zero_le (show 0 ≤ bnd l.length k (i + 1) by omega)
      have hrs := rcells_at (evenR (l.length : Int) k) i hin
      have he : (evenR (l.length : Int) k)[i] = ((x : Int), (y : Int)) := by
        have : evenR (l.length : Int) k = (List.range (k : Int).toNat).map fun i => (bnd l.length k i, bnd l.length k (i + 1)) := evenR_in _ _ (by omega) (by omega)
        simp only [this, List.getElem_map, List.getElem_range, hx, hy]
      rw [he] at hrs
      rw [hx, hy] at H R
      have hr := fun W => run_cut_lh (P := Try.prog) typeW sizeW a l.length c .i64 .i64 x y (by omega) (by omega) (by omega) W
      simp only [Int.toNat_natCast] at hr
      have HRS := Lib.hid hrs
      clear hx hy he hrs
      generalize evenR (l.length : Int) k = rs at *
      go_enter Try.func31, Try.ntmps31
      go_wp2_with fail
      refine (HE.out _).mono ?_
      rintro e w1 ⟨v1, rfl, o1, b1⟩
      obtain ⟨g, c1, rfl, hg1, hg2⟩ := own_some o1 (by omega)
      have c0 := (o1.cellAt (i * 2) (by omega)).trans HRS.out.1
      have c1' := (o1.cellAt (i * 2 + 1) (by omega)).trans HRS.out.2
      have V1 := Lib.hid ((HV.out.later b1).cut (l := x) (h := y) (by omega) (by omega))
      have B1 := Lib.hid b1
      clear o1 HE HV b1 HRS hlen
      go_wp2_with fail
      go_quiet (fail)
      have B2 := Lib.hid (below_drewN B1.out nq)
      have V2 := Lib.hid (V1.out.later (below_drewN (Below.refl _ w1) nq))
      generalize (World.drewN _ nq) = W2 at *
      go_wp2_with fail
      go_ret
      rw [H.out]
      exact ⟨_, rfl, V2.out, B2.out⟩
theorem clone_int (v : Value) (zs : List Int) (hm : zs.length ≤ 1048576) (w : World) (hL : IntsAt .i64 w.heap.size w v zs) :
    Calls Try.prog 27 #[v] w (ClonedTo 3 1 zs.length (zs.map (Value.int .i64)) w) := by
  obtain ⟨a, c, rfl⟩ := ints_value hL
  rcases hL.form with ⟨e0, rfl⟩ | ⟨b, off, cap', e0, hcap, hb, hcs⟩ <;> cases e0
  · refine (Try.slices_Clone_nil_f27 0 0 w).mono ?_
    rintro e w' ⟨rfl, rfl⟩
    exact ⟨_, rfl, World.ownsRow_nil _ _ _ _, Below.refl _ _⟩
  · refine (Try.slices_Clone_int b off zs.length c zs w (Nat.le_refl _) (by omega) ?_).mono ?_
    · intro j hj
      rw [List.getD_eq_getElem?_getD]
      exact hcs j hj
    · rintro e w' ⟨u, rfl, ho, _, hb'⟩
      rw [List.take_length] at ho
      exact ⟨u, rfl, ho, hb'⟩
/-- a sampler in memory -/
def SampAt (b : Nat) (w : World) (n size steps : Nat) (ords : List (List Int)) : Prop :=
  b < w.heap.size ∧ ∃ v, w.cell? ⟨b, 0, none⟩ = some v ∧ w.cell? ⟨b, 1, none⟩ = some (.int .i64 size) ∧ w.cell? ⟨b, 2, none⟩ = some (.int .i64 steps) ∧ w.cell? ⟨b, 3, none⟩ = some (.int .i64 ((n / size : Nat) : Int)) ∧ ListsAt (b + 1) w v ords
theorem SampAt.kept {b n size steps : Nat} {w w' : World} {ords : List (List Int)} {row : Option Nat} (h : SampAt b w n size steps ords) (hg : w.grownBy w' row) (hr : ∀ k, row = some k → k < b) : SampAt b w' n size steps ords := by
  obtain ⟨hb, v, c0, c1, c2, c3, hL⟩ := h
  have hc : ∀ o, w'.cell? ⟨b, o, none⟩ = w.cell? ⟨b, o, none⟩ := fun o => by
    simp only [World.cell?, hg.block b hb (fun e => by have := hr b e.symm; omega)]
  exact ⟨Nat.lt_of_lt_of_le hb hg.size, v, (hc 0).trans c0, (hc 1).trans c1, (hc 2).trans c2, (hc 3).trans c3, hL.kept hg (fun k e => by have := hr k e; omega)⟩
theorem SampAt.later {b n size steps : Nat} {w w' : World} {ords : List (List Int)} (h : SampAt b w n size steps ords) (hb : Below w.heap.size w w') : SampAt b w' n size steps ords := h.kept (grown_below hb none) (fun k e => by cases e)
theorem steps_any (b n size steps : Nat) (ords : List (List Int)) (w : World) (h : SampAt b w n size steps ords) :
    Calls Try.prog 13 #[.pointer (some ⟨b, 0, none⟩)] w fun e w' => e = .returned (.int .i64 steps) ∧ Below w.heap.size w w' := by
  obtain ⟨hb, v, c0, c1, c2, c3, hL⟩ := h
  clear hL
  go_enter Try.func13, Try.ntmps13
  go_wp2_with fail
  go_ret
  exact ⟨by first | rfl | (simp; done), by first | exact Below.refl _ _ | exact (Below.refl _ _).drew⟩
theorem epoch_no (b n size steps : Nat) (ords : List (List Int)) (t : Int) (ht : t < 0 ∨ (steps : Int) ≤ t) (w : World) (h : SampAt b w n size steps ords) :
    Calls Try.prog 38 #[.pointer (some ⟨b, 0, none⟩), .int .i64 t] w fun e w' => e = .returned (.tuple #[.int .i64 0, .int .i64 0, .bool false]) ∧ Below w.heap.size w w' := by
  obtain ⟨hb, v, c0, c1, c2, c3, hL⟩ := h
  clear hL
  by_cases h1 : t < 0
  · have g1 : decide (t < 0) = true := by simpa using h1
    go_enter Try.func38, Try.ntmps38
    go_wp2_with fail
    go_ret3
    exact ⟨rfl, by first | exact Below.refl _ _ | exact (Below.refl _ _).drew⟩
  · have g1 : decide (t < 0) = false := by simpa using h1
    have h2 : (steps : Int) ≤ t := by omega
    have g2 : decide ((steps : Int) ≤ t) = true := by simpa using h2
    clear ht
    go_enter Try.func38, Try.ntmps38
    go_wp2_with fail
    go_ret3
    exact ⟨rfl, by first | exact Below.refl _ _ | exact (Below.refl _ _).drew⟩
theorem epoch_yes (b n size steps : Nat) (ords : List (List Int)) (hR : RightS n size steps ords) (t : Nat) (ht : t < steps) (w : World) (h : SampAt b w n size steps ords) :
    Calls Try.prog 38 #[.pointer (some ⟨b, 0, none⟩), .int .i64 t] w fun e w' => e = .returned (.tuple #[.int .i64 ((t / (n / size) : Nat) : Int), .int .i64 ((t % (n / size) : Nat) : Int), .bool true]) ∧ Below w.heap.size w w' := by
  obtain ⟨hb, v, c0, c1, c2, c3, hL⟩ := h
  have he := hR.each.1
  have h20 := hR.st
  have h21 := hR.n20
  have h22 := hR.each.2.2
  have g1 : decide ((t : Int) < 0) = false := by simp
  have g2 : decide ((steps : Int) ≤ t) = false := by simp; omega
  have g3 : (t : Int) < steps := by omega
  clear hL hR
  have td : Int.tdiv (t : Int) ((n / size : Nat) : Int) = ((t / (n / size) : Nat) : Int) := by rw [Int.tdiv_eq_ediv_of_nonneg (by omega)]; exact (Int.natCast_ediv _ _).symm
  have tm : Int.tmod (t : Int) ((n / size : Nat) : Int) = ((t % (n / size) : Nat) : Int) := by rw [Int.tmod_eq_emod_of_nonneg (by omega)]; exact (Int.natCast_emod _ _).symm
  have l1 : t / (n / size) ≤ t := Nat.div_le_self _ _
  have l2 : t % (n / size) ≤ t := Nat.mod_le _ _
  generalize n / size = each at *
  generalize t / each = q at *
  generalize t % each = r at *
  go_enter Try.func38, Try.ntmps38
  go_wp2_with fail
  go_quiet (fail)
  have B := below_drewN (Below.refl w.heap.size w) nq
  generalize (World.drewN _ nq) = W2 at *
  go_wp2_with fail
  go_ret3
  exact ⟨rfl, B⟩
end Go.Proofs.Ytgkiloidjeahbaa
