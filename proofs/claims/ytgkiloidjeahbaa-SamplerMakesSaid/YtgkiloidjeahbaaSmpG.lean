/- Layer 12: New. -/
import Derived.Test.YtgkiloidjeahbaaSmpF
import Derived.Test.YtgkiloidjeahbaaAppL
namespace Go.Proofs.Ytgkiloidjeahbaa
open Go.RowKit
set_option linter.unusedVariables false
def NoSamp (c : Int) (w : World) (e : Ending) (w' : World) : Prop := e = .returned (.tuple #[.pointer none, .int .i64 c]) ∧ Below w.heap.size w w'
set_option maxHeartbeats 1000000 in
theorem New_no (n size steps : Int) (hn : n ≤ 1048576) (hs : steps ≤ 1048576) (v : Value) (zs : List Int) (w : World) (hv : IntsW .u64 w.heap.size w v zs) (hc : codeS n size steps zs.length ≠ 0) :
    Calls Try.prog 8 #[.int .i64 n, .int .i64 size, .int .i64 steps, v] w (NoSamp (codeS n size steps zs.length) w) := by
  obtain ⟨a, c, rfl⟩ := hv.value
  have AL := Lib.hid ((Below.refl w.heap.size w).alloc (Nat.le_refl _) (.cells #[.int .i64 n] 3))
  clear hv
  by_cases h1 : n < 1
  · have H := Lib.hid (show codeS n size steps zs.length = 2 from if_pos (.inl h1))
    have g1 : decide (n < 1) = true := by simpa using h1
    clear hc
    go_enter Try.func8, Try.ntmps8
    go_wp2_with fail
    go_ret2
    rw [H.out]
    exact ⟨rfl, AL.out⟩
  · have g1 : decide (n < 1) = false := by simpa using h1
    have g2 : decide (1048576 < n) = false := by simp; omega
    by_cases h2 : steps < 0
    · have H := Lib.hid (show codeS n size steps zs.length = 2 from if_pos (.inr (.inr (.inl h2))))
      have g3 : decide (steps < 0) = true := by simpa using h2
      clear hc
      go_enter Try.func8, Try.ntmps8
      go_wp2_with fail
      go_ret2
      rw [H.out]
      exact ⟨rfl, AL.out⟩
    · have g3 : decide (steps < 0) = false := by simpa using h2
      have g4 : decide (1048576 < steps) = false := by simp; omega
      have e1 : codeS n size steps zs.length = if size < 1 ∨ n < size then 7 else if (zs.length : Int) < cntB steps (n / size) * needZ n then 8 else 0 := if_neg (by omega)
      by_cases h3 : size < 1
      · have H := Lib.hid (show codeS n size steps zs.length = 7 by rw [e1, if_pos (.inl h3)])
        have g5 : decide (size < 1) = true := by simpa using h3
        clear hc e1
        go_enter Try.func8, Try.ntmps8
        go_wp2_with fail
        go_ret2
        rw [H.out]
        exact ⟨rfl, AL.out⟩
      · have g5 : decide (size < 1) = false := by simpa using h3
        by_cases h4 : n < size
        · have H := Lib.hid (show codeS n size steps zs.length = 7 by rw [e1, if_pos (.inr h4)])
          have g6 : decide (n < size) = true := by simpa using h4
          clear hc e1
          go_enter Try.func8, Try.ntmps8
          go_wp2_with fail
          go_ret2
          rw [H.out]
          exact ⟨rfl, AL.out⟩
        · have g6 : decide (n < size) = false := by simpa using h4
          have e2 : codeS n size steps zs.length = if (zs.length : Int) < cntB steps (n / size) * needZ n then 8 else 0 := by rw [e1, if_neg (by omega)]
          by_cases h5 : (zs.length : Int) < cntB steps (n / size) * needZ n
          · have H := Lib.hid (show codeS n size steps zs.length = 8 by rw [e2, if_pos h5])
            have td : Int.tdiv n size = n / size := Int.tdiv_eq_ediv_of_nonneg (by omega)
            have q0 := Int.ediv_nonneg (show (0 : Int) ≤ n by omega) (show (0 : Int) ≤ size by omega)
            have q1 := Int.ediv_le_self (a := n) size (by omega)
            have HC := Lib.hid (fun W => count_any steps (n / size) (by omega) (by omega) (by omega) (by omega) W)
            have HN := Lib.hid (fun W => need_any n (by omega) W)
            have c0 := cntB_range steps (n / size)
            have n0 : 0 ≤ needZ n ∧ needZ n ≤ 1048576 := by unfold needZ; split <;> omega
            have c1 : cntB steps (n / size) ≤ 1048576 := by omega
            have m0 := Int.mul_nonneg c0.1 n0.1
            have m1 : cntB steps (n / size) * needZ n ≤ 1048576 * 1048576 := Int.mul_le_mul c1 n0.2 n0.1 (by omega)
            have hmul : IntKind.i64.wrap (cntB steps (n / size) * needZ n) = cntB steps (n / size) * needZ n := IntWalk.i64_in _ (by omega)
            have g7 : decide ((zs.length : Int) < cntB steps (n / size) * needZ n) = true := by simpa using h5
            clear hc e1 e2 m0 m1 c0
            generalize cntB steps (n / size) = E at *
            generalize needZ n = z at *
            generalize n / size = each at *
            go_enter Try.func8, Try.ntmps8
            go_wp2_with fail
            have X := cells_four (w.alloc (.cells #[.int .i64 n] 3)) (.slice none 0 0) (.int .i64 size) (.int .i64 steps) (.int .i64 each) 53
            have AL2 := Lib.hid (AL.out.alloc AL.out.size (.cells #[.slice none 0 0, .int .i64 size, .int .i64 steps, .int .i64 each] 53))
            refine (HC.out _).mono ?_
            rintro e w1 ⟨rfl, rfl⟩
            go_wp2_with fail
            refine (HN.out _).mono ?_
            rintro e w1 ⟨rfl, rfl⟩
            go_wp2_with fail
            go_ret2
            rw [H.out]
            exact ⟨rfl, AL2.out⟩
          · exact absurd (by rw [e2, if_neg h5]) hc
def NewSamp (n size steps : Nat) (ords : List (List Int)) (w : World) (e : Ending) (w' : World) : Prop :=
  ∃ b, e = .returned (.tuple #[.pointer (some ⟨b, 0, none⟩), .int .i64 0]) ∧ w.heap.size ≤ b ∧ SampAt b w' n size steps ords ∧ Below w.heap.size w w'
theorem cntS_lt (steps each i : Nat) (he : 1 ≤ each) : (i : Int) < cntB steps each ↔ i * each < steps := by
  by_cases h : 1 ≤ steps
  · have := cntB_lt (steps : Int) (each : Int) i (by omega) (by omega)
    rw [this, ← Int.natCast_mul]
    omega
  · rw [cntB_out _ _ (by omega)]
    constructor
    · intro h; omega
    · intro h; omega
/-- how many orders there are -/
def cntN (n size steps : Nat) : Nat := (cntB (steps : Int) ((n / size : Nat) : Int)).toNat
theorem code_zero {n size steps : Int} {len : Nat} (h : codeS n size steps len = 0) : 1 ≤ n ∧ n ≤ 1048576 ∧ 0 ≤ steps ∧ steps ≤ 1048576 ∧ 1 ≤ size ∧ size ≤ n ∧ cntB steps (n / size) * needZ n ≤ len := by
  unfold codeS at h
  split at h
  · cases h
  · split at h
    · cases h
    · split at h
      · cases h
      · omega
structure OkS (n size steps : Nat) (len : Nat) : Prop where
  s1 : 1 ≤ size
  sn : size ≤ n
  n20 : n ≤ 1048576
  st : steps ≤ 1048576
  len : cntN n size steps * (n - 1) ≤ len
theorem code_ok {n size steps : Int} {len : Nat} (h : codeS n size steps len = 0) : ∃ n' s' t' : Nat, n = n' ∧ size = s' ∧ steps = t' ∧ OkS n' s' t' len := by
  obtain ⟨h1, h2, h3, h4, h5, h6, h7⟩ := code_zero h
  obtain ⟨n, rfl⟩ := Int.eq_ofNat_of_zero_le (show 0 ≤ n by omega)
  obtain ⟨size, rfl⟩ := Int.eq_ofNat_of_zero_le (show 0 ≤ size by omega)
  obtain ⟨steps, rfl⟩ := Int.eq_ofNat_of_zero_le h3
  refine ⟨n, size, steps, rfl, rfl, rfl, by omega, by omega, by omega, by omega, ?_⟩
  have e1 : needZ (n : Int) = ((n - 1 : Nat) : Int) := by unfold needZ; rw [if_neg (by omega)]; omega
  have e2 : cntB (steps : Int) ((n : Int) / (size : Int)) = (cntN n size steps : Int) := by
    unfold cntN
    rw [Int.natCast_ediv]
    exact (Int.toNat_of_nonneg (cntB_range _ _).1).symm
  rw [e1, e2, ← Int.natCast_mul] at h7
  omega
theorem OkS.each {n size steps len : Nat} (h : OkS n size steps len) : 1 ≤ n / size := (Nat.le_div_iff_mul_le (by have := h.s1; omega)).2 (by have := h.sn; omega)
theorem OkS.cnt {n size steps len : Nat} (h : OkS n size steps len) : (cntN n size steps : Int) = cntB (steps : Int) ((n / size : Nat) : Int) := Int.toNat_of_nonneg (cntB_range _ _).1
theorem OkS.right {n size steps len : Nat} (h : OkS n size steps len) (zs : List Int) : RightS n size steps (ordTo zs n (cntN n size steps)) :=
  ⟨h.s1, h.sn, h.n20, h.st, by
    rw [ordTo_length]
    apply Nat.le_of_not_lt
    intro hlt
    have := (cntS_lt steps (n / size) (cntN n size steps) h.each).2 hlt
    rw [← h.cnt] at this
    omega, ordTo_row⟩
theorem OkS.okS {n size steps : Nat} {zs : List Int} (h : OkS n size steps zs.length) {k : Nat} (hk : k < cntN n size steps) : okS zs (k * (n - 1)) (n : Int) = true ∧ k * (n - 1) + (n - 1) = (k + 1) * (n - 1) ∧ (k + 1) * (n - 1) ≤ zs.length := by
  have h1 : (k + 1) * (n - 1) ≤ cntN n size steps * (n - 1) := Nat.mul_le_mul_right _ hk
  have h2 : k * (n - 1) + (n - 1) = (k + 1) * (n - 1) := (Nat.succ_mul _ _).symm
  have := h.len
  have e1 : needZ (n : Int) = ((n - 1 : Nat) : Int) := by
    have := h.s1; have := h.sn
    unfold needZ; rw [if_neg (by omega)]; omega
  refine ⟨?_, h2, by omega⟩
  unfold Go.Proofs.Ytgkiloidjeahbaa.okS
  rw [e1]
  have hn := h.n20
  simp only [Bool.and_eq_true, decide_eq_true_eq]
  generalize k * (n - 1) = x at *
  omega
theorem StreamAt.store {b p o k : Nat} {w : World} {zs : List Int} {x : Value} (y : Value) (s : StreamAt b w zs k) (hp : p ≠ b) (hx : w.cell? ⟨p, o, none⟩ = some x) (hi : ∀ z, x ≠ .int .u64 z) : StreamAt b (w.setCell ⟨p, o, none⟩ y) zs k := by
  obtain ⟨hb, hk, v, c0, c1, fz, hl, hI⟩ := s
  refine ⟨by simpa [World.setCell] using hb, hk, v, ?_, ?_, ?_, hl, ?_⟩
  · exact (World.cell?_setCell_other w ⟨p, o, none⟩ ⟨b, 0, none⟩ y (by intro e; cases e; exact hp rfl)).trans c0
  · exact (World.cell?_setCell_other w ⟨p, o, none⟩ ⟨b, 1, none⟩ y (by intro e; cases e; exact hp rfl)).trans c1
  · rw [World.frozen?_setCell]; exact fz
  · rcases hI with h | ⟨g, off, cap, e, hn, hg, hc⟩
    · exact .inl h
    · refine .inr ⟨g, off, cap, e, hn, hg, fun j u hj => ?_⟩
      have h1 := hc j u hj
      rw [World.cell?_setCell_other _ _ _ _ ?_]
      · exact h1
      · intro e2
        rw [← e2] at h1
        rw [h1] at hx
        cases hx
        rw [List.getElem?_map] at hj
        cases hz : zs[j]? with
        | none => rw [hz] at hj; cases hj
        | some z => rw [hz] at hj; cases hj; exact hi z rfl
set_option maxHeartbeats 4000000 in
theorem New_yes (n size steps : Nat) (v : Value) (zs : List Int) (hz : ∀ z ∈ zs, 0 ≤ z ∧ z < 18446744073709551616) (hm : zs.length ≤ 1048576) (hok : OkS n size steps zs.length) (w : World) (hv : IntsW .u64 w.heap.size w v zs) :
    Calls Try.prog 8 #[.int .i64 n, .int .i64 size, .int .i64 steps, v] w (NewSamp n size steps (ordTo zs n (cntN n size steps)) w) := by
  have HV := Lib.hid hv
  obtain ⟨a, c, rfl⟩ := hv.value
  have AL := Lib.hid ((Below.refl w.heap.size w).alloc (Nat.le_refl _) (.cells #[.int .i64 n] 3))
  have h1 := hok.s1
  have h2 := hok.sn
  have h3 := hok.n20
  have h4 := hok.st
  have g1 : decide ((n : Int) < 1) = false := by simp; omega
  have g2 : decide (1048576 < (n : Int)) = false := by simp; omega
  have g3 : decide ((steps : Int) < 0) = false := by simp
  have g4 : decide (1048576 < (steps : Int)) = false := by simp; omega
  have g5 : decide ((size : Int) < 1) = false := by simp; omega
  have g6 : decide ((n : Int) < size) = false := by simp; omega
  have td : Int.tdiv (n : Int) (size : Int) = ((n / size : Nat) : Int) := by rw [Int.tdiv_eq_ediv_of_nonneg (by omega)]; exact (Int.natCast_ediv _ _).symm
  have q1 : n / size ≤ n := Nat.div_le_self _ _
  have q0 := Int.natCast_nonneg (n / size)
  have HC := Lib.hid (fun W => count_any (steps : Int) ((n / size : Nat) : Int) (by omega) (by omega) (by omega) (by omega) W)
  rw [← hok.cnt] at HC
  have HN := Lib.hid (fun W => need_any (n : Int) (by omega) W)
  have e1 : needZ (n : Int) = ((n - 1 : Nat) : Int) := by unfold needZ; rw [if_neg (by omega)]; omega
  rw [e1] at HN
  have hlen := hok.len
  have HKS := Lib.hid (fun k hk => hok.okS (k := k) hk)
  have hmul : IntKind.i64.wrap ((cntN n size steps : Int) * ((n - 1 : Nat) : Int)) = ((cntN n size steps * (n - 1) : Nat) : Int) := by rw [Int.natCast_mul]; exact IntWalk.i64_in _ (by rw [← Int.natCast_mul]; omega)
  have hcb : cntN n size steps ≤ 1048576 := by
    have := cntB_range (steps : Int) ((n / size : Nat) : Int)
    rw [← hok.cnt] at this
    omega
  have g7 : decide ((zs.length : Int) < ((cntN n size steps * (n - 1) : Nat) : Int)) = false := by simp only [decide_eq_false_iff_not]; omega
  have HMAX : Hid (∀ k, k < cntN n size steps → True) := Lib.hid (fun _ _ => trivial)
  clear hv hok e1
  generalize cntN n size steps * (n - 1) = p at *
  generalize hD : n - 1 = d at *
  have HD := Lib.hid hD
  clear hD
  generalize cntN n size steps = E at *
  have HEA0 := (rfl : n / size = n / size)
  generalize hEa : n / size = each at *
  have HEA := Lib.hid hEa.symm
  clear hEa HEA0
  go_enter Try.func8, Try.ntmps8
  go_wp2_with fail
  obtain ⟨x0, x1, x2, x3⟩ := cells_four (w.alloc (.cells #[.int .i64 n] 3)) (.slice none 0 0) (.int .i64 size) (.int .i64 steps) (.int .i64 each) 53
  have fx := World.frozen?_alloc_new (w.alloc (.cells #[.int .i64 n] 3)) #[.slice none 0 0, .int .i64 size, .int .i64 steps, .int .i64 each] 53 0
  have cn := cell_new w #[.int .i64 n] 3 0
  simp only [List.getElem?_toArray, List.getElem?_cons_zero] at cn
  have al2 := (Below.refl (w.alloc (.cells #[.int .i64 n] 3)).heap.size (w.alloc (.cells #[.int .i64 n] 3))).alloc (Nat.le_refl _) (.cells #[.slice none 0 0, .int .i64 size, .int .i64 steps, .int .i64 each] 53)
  have cn := cell_step al2 cn
  have AL2 := Lib.hid (below_step AL.out al2)
  have hsz : ((w.alloc (.cells #[.int .i64 n] 3)).alloc (.cells #[.slice none 0 0, .int .i64 size, .int .i64 steps, .int .i64 each] 53)).heap.size = w.heap.size + 2 := by simp
  rw [World.size_alloc] at x0 x1 x2 x3 fx
  have V2 := Lib.hid ((HV.out.below AL2.out).grow (show w.heap.size ≤ ((w.alloc (.cells #[.int .i64 n] 3)).alloc (.cells #[.slice none 0 0, .int .i64 size, .int .i64 steps, .int .i64 each] 53)).heap.size by omega))
  refine (HC.out _).mono ?_
  rintro e w1 ⟨rfl, rfl⟩
  clear AL HC HV al2
  generalize ((w.alloc (.cells #[.int .i64 n] 3)).alloc (.cells #[.slice none 0 0, .int .i64 size, .int .i64 steps, .int .i64 each] 53)) = W2 at *
  generalize hNN : w.heap.size = N at *
  go_wp2_with fail
  refine (HN.out _).mono ?_
  rintro e w1 ⟨rfl, rfl⟩
  clear HN
  go_wp2_with fail
  refine (newW_any _ zs (by omega) _ V2.out).mono ?_
  rintro e w3 ⟨b, rfl, hb, s3, b3⟩
  have S3 := Lib.hid s3
  have y0 := cell_step b3 x0
  have y1 := cell_step b3 x1
  have y2 := cell_step b3 x2
  have y3 := cell_step b3 x3
  have fy := frozen_step b3 x0 fx
  have cm := cell_step b3 cn
  have B3 := Lib.hid (below_step AL2.out b3 (by omega))
  have hs3 := s3.1
  clear s3 b3 x0 x1 x2 x3 fx cn V2
  have P3 := Lib.hid (cell_new w3 #[.pointer (some ⟨b, 0, none⟩)] 56 0)
  have al3 := (Below.refl w3.heap.size w3).alloc (Nat.le_refl _) (.cells #[.pointer (some ⟨b, 0, none⟩)] 56)
  go_upto_region 10 with fail
  have px := P3.out
  simp only [List.getElem?_toArray, List.getElem?_cons_zero] at px
  have y0 := cell_step al3 y0
  have y1 := cell_step al3 y1
  have y2 := cell_step al3 y2
  have y3 := cell_step al3 y3
  have fy := (al3.frozen (p := ⟨N + 1, 0, none⟩) (by show N + 1 < _; omega)).trans fy
  have cm := cell_step al3 cm
  have S4 := Lib.hid (S3.out.later al3)
  have B4 := Lib.hid (below_step B3.out al3 (by omega))
  have hX : w3.heap.size < (w3.alloc (.cells #[.pointer (some ⟨b, 0, none⟩)] 56)).heap.size := by simp
  clear al3 P3 S3 B3 HMAX
  generalize (w3.alloc (.cells #[.pointer (some ⟨b, 0, none⟩)] 56)) = W4 at *
  generalize w3.heap.size = X at *
  have L4 := Lib.hid (ListsAt.nil (X + 1) W4)
  have Y := Lib.hid (And.intro y1 (And.intro y2 (And.intro y3 (And.intro fy (And.intro cm px)))))
  have hbX : N + 1 < b ∧ b < X := by omega
  clear y1 y2 y3 fy cm px hs3 hb g1 g2 g3 g4 g5 g6 g7 td hmul
  go_wp2_with fail
  go_loopw [59] (fun iv wr => ∃ k : Nat, ∃ vo : Value, k ≤ E ∧ iv = .int .i64 k ∧ Hid (wr.cell? ⟨N + 1, 0, none⟩ = some vo) ∧ Hid (ListsAt (X + 1) wr vo (ordTo zs n k)) ∧ Hid (StreamAt b wr zs (k * d)) ∧ Hid (wr.cell? ⟨N + 1, 1, none⟩ = some (.int .i64 size) ∧ wr.cell? ⟨N + 1, 2, none⟩ = some (.int .i64 steps) ∧ wr.cell? ⟨N + 1, 3, none⟩ = some (.int .i64 each) ∧ wr.frozen? ⟨N + 1, 0, none⟩ = false ∧ wr.cell? ⟨N, 0, none⟩ = some (.int .i64 n) ∧ wr.cell? ⟨X, 0, none⟩ = some (.pointer (some ⟨b, 0, none⟩))) ∧ Hid (Below N w wr) ∧ X < wr.heap.size) (fun iv _ => E - (intOf iv).toNat)
  case atStart => exact ⟨0, _, Nat.zero_le _, rfl, Lib.hid y0, L4, by rw [Nat.zero_mul]; exact S4, Y, B4, hX⟩
  case round =>
    clear y0 L4 S4 Y B4 hX
    obtain ⟨k, vo, hk, rfl, HO, HL, HS, HY, HB, hX⟩ := hrel
    by_cases hlt : k < E
    · obtain ⟨o1, o2, o3⟩ := HKS.out k hlt
      obtain ⟨y1, y2, y3, fy, cm, px⟩ := HY.out
      have HOR := Lib.hid (order_any b N X zs hz (k * d) hm n h3 o1 wr.drew (HS.out.later (Below.refl _ wr).drew) cm px)
      unfold Ordered at HOR
      rw [HD.out, o2] at HOR
      obtain ⟨us, u1, u2, u3⟩ := HL.out
      rw [ordTo_length] at u1 u2 u3
      obtain ⟨ao, co, rfl⟩ := own_value u2
      have y0 := HO.out
      have hN1 : N + 1 < wr.heap.size := World.block_lt_of_cell? _ _ y0
      have U1 := Lib.hid u1
      have U2 := Lib.hid u2
      have U3 := Lib.hid u3
      have OS := Lib.hid (ordTo_succ zs n k)
      have HM := Lib.hid (shufL_length zs (k * d) n)
      have HKD := Lib.hid (And.intro o2 o3)
      rw [HD.out] at OS
      clear HO HL o1 o2 o3 u1 u2 u3
      go_upto_region 13 with fail
      refine wp_region_held_drew (S := fun w' => True) (by kernel_rfl) trivial (fun hHeld => ?_)
      refine wpAnyH_take (i := 0) (v := ?v1) rfl (by kernel_rfl) (by kernel_rfl) (by kernel_rfl) (fun _ _ _ h => h) (Or.inl ⟨by rfl, ?hy1⟩) (by assumption) ?rest1
      case hy1 => (intro w hSw; (try dsimp only at hSw); go_simp; (first | done | with_reducible rfl))
      simp only [Act.put, List.setIfInBounds_toArray, List.set_cons_zero, List.set_cons_succ, List.getElem_toArray, List.getElem_cons_zero]
      refine wpAnyH_take (i := 1) (v := ?v2) rfl (by kernel_rfl) (by kernel_rfl) (by kernel_rfl) (fun _ _ _ h => h) (Or.inl ⟨by rfl, ?hy2⟩) (by assumption) ?rest2
      case hy2 => (intro w hSw; (try dsimp only at hSw); go_simp; (first | done | with_reducible rfl))
      simp only [Act.put, List.setIfInBounds_toArray, List.set_cons_zero, List.set_cons_succ, List.getElem_toArray, List.getElem_cons_zero, List.getElem_cons_succ]
      refine wpAnyH_take (i := 2) (v := ?v3) rfl (by kernel_rfl) (by kernel_rfl) (by kernel_rfl) (fun _ _ _ h => h) (Or.inl ⟨by rfl, ?hy3⟩) (by assumption) ?rest3
      case hy3 => (intro w hSw; (try dsimp only at hSw); go_simp; (first | done | with_reducible rfl))
      simp only [Act.put, List.setIfInBounds_toArray, List.set_cons_zero, List.set_cons_succ, List.getElem_toArray, List.getElem_cons_zero, List.getElem_cons_succ]
      refine wpAnyH_take (i := 3) (v := ?v4) rfl (by kernel_rfl) (by kernel_rfl) (by kernel_rfl) (fun _ _ _ h => h) (Or.inl ⟨by rfl, ?hy4⟩) (by assumption) ?rest4
      case hy4 => (intro w hSw; (try dsimp only at hSw); go_simp; (first | done | with_reducible rfl))
      simp only [Act.put, List.setIfInBounds_toArray, List.set_cons_zero, List.set_cons_succ, List.getElem_toArray, List.getElem_cons_zero, List.getElem_cons_succ]
      refine wpAnyH_take (i := 5) (v := ?v5) rfl (by kernel_rfl) (by kernel_rfl) (by kernel_rfl) (fun _ _ _ h => h) (Or.inl ⟨by rfl, ?hy5⟩) (by assumption) ?rest5
      case hy5 => (intro w hSw; (try dsimp only at hSw); go_simp; (first | done | with_reducible rfl))
      simp only [Act.put, List.setIfInBounds_toArray, List.set_cons_zero, List.set_cons_succ, List.getElem_toArray, List.getElem_cons_zero, List.getElem_cons_succ]
      refine (fun (TAIL : Hid (?G : Prop)) => ?main) (Lib.hid ?tail)
      case main =>
        refine wpAnyH_ready (rs := [4, 6]) (by kernel_rfl) (by simp) ?_
        refine AllReadyH.cons rfl (fun K hK => ?_) ?_
        · try simp only [Act.put, List.setIfInBounds_toArray, List.set_cons_zero, List.set_cons_succ, List.getElem_toArray, List.getElem_cons_zero, List.getElem_cons_succ]
          go_simp
          refine hK.out _ _ trivial (fun hHeld => ?_)
          clear hK K
          try simp only [Act.put, List.setIfInBounds_toArray, List.set_cons_zero, List.set_cons_succ, List.getElem_toArray, List.getElem_cons_zero, List.getElem_cons_succ]
          refine wpAnyH_ready (rs := [6]) (by kernel_rfl) (by simp) ?_
          refine AllReadyH.cons rfl (fun K hK => ?_) AllReadyH.nil
          simp only [List.getElem_toArray, List.getElem_cons_zero, List.getElem_cons_succ]
          go_simp
          go_at_call 22
          refine HOR.out.mono ?_
          rintro e w5 ⟨u5, rfl, o5, s5, g5⟩
          obtain ⟨au, cu, rfl⟩ := own_value o5
          have z0 := (grown_cell (o := 0) g5 hN1 (show N + 1 ≠ b by omega)).trans y0
          have F := Lib.hid (And.intro o5 (And.intro s5 g5))
          clear o5 s5 g5
          go_wp2_with fail
          refine hK.out _ _ trivial (fun hHeld => ?_)
          clear hK K
          try simp only [Act.put, List.setIfInBounds_toArray, List.set_cons_zero, List.set_cons_succ, List.getElem_toArray, List.getElem_cons_zero, List.getElem_cons_succ]
          refine wpAnyH_ready (rs := [7]) (by kernel_rfl) (by simp) ?_
          refine AllReadyH.cons rfl (fun K hK => ?_) AllReadyH.nil
          simp only [List.getElem_toArray, List.getElem_cons_zero, List.getElem_cons_succ]
          go_simp
          refine hK.out _ _ trivial (fun hHeld => ?_)
          clear hK K
          try simp only [Act.put, List.setIfInBounds_toArray, List.set_cons_zero, List.set_cons_succ, List.getElem_toArray, List.getElem_cons_zero, List.getElem_cons_succ]
          clear hHeld z0
          revert au cu w5
          exact TAIL.out
        · refine AllReadyH.cons rfl (fun K hK => ?_) AllReadyH.nil
          try simp only [Act.put, List.setIfInBounds_toArray, List.set_cons_zero, List.set_cons_succ, List.getElem_toArray, List.getElem_cons_zero, List.getElem_cons_succ]
          go_simp
          go_at_call 22
          refine HOR.out.mono ?_
          rintro e w5 ⟨u5, rfl, o5, s5, g5⟩
          obtain ⟨au, cu, rfl⟩ := own_value o5
          have z0 := (grown_cell (o := 0) g5 hN1 (show N + 1 ≠ b by omega)).trans y0
          have F := Lib.hid (And.intro o5 (And.intro s5 g5))
          clear o5 s5 g5
          go_wp2_with fail
          refine hK.out _ _ trivial (fun hHeld => ?_)
          clear hK K
          try simp only [Act.put, List.setIfInBounds_toArray, List.set_cons_zero, List.set_cons_succ, List.getElem_toArray, List.getElem_cons_zero, List.getElem_cons_succ]
          refine wpAnyH_ready (rs := [4, 7]) (by kernel_rfl) (by simp) ?_
          refine AllReadyH.cons rfl (fun K hK => ?_) ?_
          · try simp only [Act.put, List.setIfInBounds_toArray, List.set_cons_zero, List.set_cons_succ, List.getElem_toArray, List.getElem_cons_zero, List.getElem_cons_succ]
            go_simp
            refine hK.out _ _ trivial (fun hHeld => ?_)
            clear hK K
            try simp only [Act.put, List.setIfInBounds_toArray, List.set_cons_zero, List.set_cons_succ, List.getElem_toArray, List.getElem_cons_zero, List.getElem_cons_succ]
            refine wpAnyH_ready (rs := [7]) (by kernel_rfl) (by simp) ?_
            refine AllReadyH.cons rfl (fun K hK => ?_) AllReadyH.nil
            simp only [List.getElem_toArray, List.getElem_cons_zero, List.getElem_cons_succ]
            go_simp
            refine hK.out _ _ trivial (fun hHeld => ?_)
            clear hK K
            try simp only [Act.put, List.setIfInBounds_toArray, List.set_cons_zero, List.set_cons_succ, List.getElem_toArray, List.getElem_cons_zero, List.getElem_cons_succ]
            exact TAIL.out _ _ _ F
          · refine AllReadyH.cons rfl (fun K hK => ?_) AllReadyH.nil
            try simp only [Act.put, List.setIfInBounds_toArray, List.set_cons_zero, List.set_cons_succ, List.getElem_toArray, List.getElem_cons_zero, List.getElem_cons_succ]
            go_simp
            have z1 := cell_step ((Below.refl w5.heap.size w5).alloc (Nat.le_refl _) (.cells #[.slice au n cu] 38)) z0
            refine hK.out _ _ trivial (fun hHeld => ?_)
            clear hK K
            try simp only [Act.put, List.setIfInBounds_toArray, List.set_cons_zero, List.set_cons_succ, List.getElem_toArray, List.getElem_cons_zero, List.getElem_cons_succ]
            refine wpAnyH_ready (rs := [4]) (by kernel_rfl) (by simp) ?_
            refine AllReadyH.cons rfl (fun K hK => ?_) AllReadyH.nil
            simp only [List.getElem_toArray, List.getElem_cons_zero, List.getElem_cons_succ]
            go_simp
            refine hK.out _ _ trivial (fun hHeld => ?_)
            clear hK K
            try simp only [Act.put, List.setIfInBounds_toArray, List.set_cons_zero, List.set_cons_succ, List.getElem_toArray, List.getElem_cons_zero, List.getElem_cons_succ]
            exact TAIL.out _ _ _ F
      case tail =>
        intro w5 au cu F
        obtain ⟨o5, s5, g5⟩ := F.out
        have hX5 : X + 1 ≤ w5.heap.size := by have := g5.size; have e : wr.drew.heap.size = wr.heap.size := rfl; omega
        have hXd : X + 1 ≤ wr.drew.heap.size := by have e : wr.drew.heap.size = wr.heap.size := rfl; omega
        have U5 := Lib.hid (row_other U2.out.drew g5 (fun q e => by cases e; omega))
        have U35 := Lib.hid (fun t (ht : t < k) => row_other (U3.out t ht).drew g5 (fun q e => by cases e; omega))
        have O5 := Lib.hid (owns_mono hXd o5)
        have w0 := (grown_cell (o := 0) g5 hN1 (show N + 1 ≠ b by omega)).trans y0
        have w1 := (grown_cell (o := 1) g5 hN1 (show N + 1 ≠ b by omega)).trans y1
        have w2 := (grown_cell (o := 2) g5 hN1 (show N + 1 ≠ b by omega)).trans y2
        have w3' := (grown_cell (o := 3) g5 hN1 (show N + 1 ≠ b by omega)).trans y3
        have wf := (grown_frozen (o := 0) g5 hN1 (show N + 1 ≠ b by omega)).trans fy
        have wm := (grown_cell (o := 0) g5 (show N < wr.drew.heap.size by omega) (show N ≠ b by omega)).trans cm
        have wx := (grown_cell (o := 0) g5 (show X < wr.drew.heap.size by omega) (show X ≠ b by omega)).trans px
        have B5 := Lib.hid (HB.out.drew.grown g5 (hNN ▸ HB.out.drew.size) (fun q e => by cases e; omega))
        have S5 := Lib.hid s5
        clear o5 s5 g5 F y0 y1 y2 y3 fy cm px HY HS U2 U3 HOR
        refine wpAnyH_ready (rs := [8]) (by kernel_rfl) (by simp) ?_
        refine AllReadyH.cons rfl (fun K hK => ?_) AllReadyH.nil
        simp only [List.getElem_toArray, List.getElem_cons_zero, List.getElem_cons_succ]
        try simp only [Act.put, List.setIfInBounds_toArray, List.set_cons_zero, List.set_cons_succ]
        refine step_one_lies (a := ⟨_, _⟩) (W := w5) (v := .slice ao k co) (g := w5.heap.size) (news := #[.slice au n cu]) elemL (by rfl) _ _ (by rfl) (by rfl) (by rfl) rfl rfl U5.out rfl ?_ ?_ ?_ ?_ ?_
        · simp [Value.oneCell']
        · unfold maxLen; omega
        · omega
        · omega
        intro b' cap' w9 ho9 hg9 hat9
        have L9 := Lib.hid (ListsAt.snoc (ls := ordTo zs n k) (l := shufL zs (k * d) n) (by rw [ordTo_length]; exact U1.out) (by rw [ordTo_length]; exact U5.out) (by rw [ordTo_length]; exact U35.out) (by rw [HM.out]; exact O5.out) (by rw [ordTo_length]; exact ho9) hg9)
        rw [← OS.out] at L9
        have D9 := below_appended (Below.refl (X + 1) w5) U5.out hg9 (Nat.le_refl _) hX5
        have v0 := (D9.cell (p := ⟨N + 1, 0, none⟩) (show N + 1 < X + 1 by omega)).trans w0
        have v1 := (D9.cell (p := ⟨N + 1, 1, none⟩) (show N + 1 < X + 1 by omega)).trans w1
        have v2 := (D9.cell (p := ⟨N + 1, 2, none⟩) (show N + 1 < X + 1 by omega)).trans w2
        have v3 := (D9.cell (p := ⟨N + 1, 3, none⟩) (show N + 1 < X + 1 by omega)).trans w3'
        have vf := (D9.frozen (p := ⟨N + 1, 0, none⟩) (show N + 1 < X + 1 by omega)).trans wf
        have vm := (D9.cell (p := ⟨N, 0, none⟩) (show N < X + 1 by omega)).trans wm
        have vx := (D9.cell (p := ⟨X, 0, none⟩) (show X < X + 1 by omega)).trans wx
        have S9 := Lib.hid (S5.out.below D9 (by omega))
        have B9 := Lib.hid (B5.out.trans (D9.mono (by omega)))
        have hX9 : X + 1 ≤ w9.heap.size := Nat.le_trans hX5 D9.size
        clear ho9 hg9 hat9 D9 w0 w1 w2 w3' wf wm wx U5 U35 O5 S5 B5
        refine hK.out _ _ trivial (fun hHeld => ?_)
        clear hK K
        try simp only [Act.put, List.setIfInBounds_toArray, List.set_cons_zero, List.set_cons_succ]
        refine wpAnyH_take (i := 9) (v := ?v6) rfl (by kernel_rfl) (by kernel_rfl) (by kernel_rfl) (fun _ _ _ h => h) (Or.inl ⟨by rfl, ?hy6⟩) (by assumption) ?rest6
        case hy6 => (intro w hSw; (try dsimp only at hSw); go_simp; (first | done | with_reducible rfl))
        simp only [Act.put, List.setIfInBounds_toArray, List.set_cons_zero, List.set_cons_succ, List.getElem_toArray, List.getElem_cons_zero, List.getElem_cons_succ]
        refine wpAnyH_take (i := 10) (v := ?v7) rfl (by kernel_rfl) (by kernel_rfl) (by kernel_rfl) (fun _ _ _ h => h) (Or.inl ⟨by rfl, ?hy7⟩) (by assumption) ?rest7
        case hy7 => (intro w hSw; (try dsimp only at hSw); go_simp; (first | done | with_reducible rfl))
        simp only [Act.put, List.setIfInBounds_toArray, List.set_cons_zero, List.set_cons_succ, List.getElem_toArray, List.getElem_cons_zero, List.getElem_cons_succ]
        refine wpAnyH_ready (rs := [11]) (by kernel_rfl) (by simp) ?_
        refine AllReadyH.cons rfl (fun K hK => ?_) AllReadyH.nil
        simp only [List.getElem_toArray, List.getElem_cons_zero, List.getElem_cons_succ]
        have v0' := v0
        go_simp
        refine hK.out _ _ trivial (fun hHeld => ?_)
        clear hK K v0'
        try simp only [Act.put, List.setIfInBounds_toArray, List.set_cons_zero, List.set_cons_succ, List.getElem_toArray, List.getElem_cons_zero, List.getElem_cons_succ]
        refine wpAnyH_done (by kernel_rfl) ?_ _
        have L10 := Lib.hid (L9.out.kept (grown_set w9 (N + 1) 0 (.slice (some ⟨b', 0, none⟩) (k + 1) cap')) (fun q e => by cases e; omega))
        have S10 := Lib.hid (S9.out.store (.slice (some ⟨b', 0, none⟩) (k + 1) cap') (show N + 1 ≠ b by omega) v0 (fun z => by simp))
        have B10 := Lib.hid (below_set B9.out (show N ≤ N + 1 by omega) (o := 0) (x := .slice (some ⟨b', 0, none⟩) (k + 1) cap'))
        have x0 := Lib.hid (World.cell?_setCell_same w9 ⟨N + 1, 0, none⟩ (.slice (some ⟨b', 0, none⟩) (k + 1) cap') v0)
        have Y10 : Hid ((w9.setCell ⟨N + 1, 0, none⟩ (.slice (some ⟨b', 0, none⟩) (k + 1) cap')).cell? ⟨N + 1, 1, none⟩ = some (.int .i64 size) ∧ (w9.setCell ⟨N + 1, 0, none⟩ (.slice (some ⟨b', 0, none⟩) (k + 1) cap')).cell? ⟨N + 1, 2, none⟩ = some (.int .i64 steps) ∧ (w9.setCell ⟨N + 1, 0, none⟩ (.slice (some ⟨b', 0, none⟩) (k + 1) cap')).cell? ⟨N + 1, 3, none⟩ = some (.int .i64 each) ∧ (w9.setCell ⟨N + 1, 0, none⟩ (.slice (some ⟨b', 0, none⟩) (k + 1) cap')).frozen? ⟨N + 1, 0, none⟩ = false ∧ (w9.setCell ⟨N + 1, 0, none⟩ (.slice (some ⟨b', 0, none⟩) (k + 1) cap')).cell? ⟨N, 0, none⟩ = some (.int .i64 n) ∧ (w9.setCell ⟨N + 1, 0, none⟩ (.slice (some ⟨b', 0, none⟩) (k + 1) cap')).cell? ⟨X, 0, none⟩ = some (.pointer (some ⟨b, 0, none⟩))) :=
          Lib.hid ⟨(World.cell?_setCell_other _ _ _ _ (by simp)).trans v1, (World.cell?_setCell_other _ _ _ _ (by simp)).trans v2, (World.cell?_setCell_other _ _ _ _ (by simp)).trans v3, (World.frozen?_setCell _ _ _ _).trans vf, (World.cell?_setCell_other _ _ _ _ (by simp)).trans vm, (World.cell?_setCell_other _ _ _ _ (by simp <;> omega)).trans vx⟩
        have hX10 : X < (w9.setCell ⟨N + 1, 0, none⟩ (.slice (some ⟨b', 0, none⟩) (k + 1) cap')).heap.size := by simp [World.setCell]; omega
        clear v0 v1 v2 v3 vf vm vx L9 S9 B9 hX9
        generalize w9.setCell ⟨N + 1, 0, none⟩ (.slice (some ⟨b', 0, none⟩) (k + 1) cap') = W10 at *
        go_wp2_with fail
        go_roundw
        case rel => exact ⟨k + 1, _, by omega, by go_num, x0, L10, S10, Y10, B10, hX10⟩
        case measure => simp [intOf]; omega
    · have hkE : k = E := by omega
      subst hkE
      obtain ⟨y1, y2, y3, fy, cm, px⟩ := HY.out
      have y0 := HO.out
      have HSA : Hid (∀ e : (each : Int) = ((n / size : Nat) : Int), SampAt (N + 1) wr n size steps (ordTo zs n k)) := Lib.hid (fun e => ⟨by omega, vo, y0, y1, y2, by rw [← e]; exact y3, HL.out.mono (by omega)⟩)
      clear y0 y1 y2 y3 fy cm px HY HO HL HS
      go_wp2_with fail
      go_ret2
      rw [← hNN] at HB
      exact ⟨N + 1, rfl, by omega, HSA.out (by rw [HEA.out]), HB.out⟩
end Go.Proofs.Ytgkiloidjeahbaa
