/- The walk of RingOwners. -/
import Derived.Test.YtokdolbmbjfhkaaRingW
import Derived.LoopTactic
namespace Go.Proofs.Ytokdolbmbjfhkaa
open Go.RowKit
def ownOk (n x : Int) : Bool := decide (0 ≤ x) && decide (x < n)
def ownR (n x : Int) : Int := if ownOk n x then (x - 1) % n else 0
theorem own_val (n x : Int) (hn : 2 ≤ n) (h : ownOk n x = true) : ownR n x = if x = 0 then n - 1 else x - 1 := by
  unfold ownR
  rw [if_pos h]
  unfold ownOk at h
  simp only [Bool.and_eq_true, decide_eq_true_eq] at h
  by_cases h0 : x = 0
  · rw [if_pos h0, h0, show (0 : Int) - 1 = n - 1 + n * (-1) by omega, Int.add_mul_emod_self_left, Int.emod_eq_of_lt (by omega) (by omega)]
  · rw [if_neg h0, Int.emod_eq_of_lt (by omega) (by omega)]
theorem seg_down (n k : Int) (hn : 2 ≤ n) (h0 : 0 ≤ k) (h1 : k < n) : segOk n k 0 (n - 2) = true ∧ segR n k 0 (n - 2) false = if k = n - 1 then 0 else k + 1 := by
  have ho : segOk n k 0 (n - 2) = true := by
    unfold segOk
    simp
    omega
  refine ⟨ho, ?_⟩
  unfold segR
  rw [if_pos ho]
  unfold segV
  simp only [Bool.false_eq_true, if_false]
  by_cases hk : k = n - 1
  · rw [if_pos hk, hk, show n - 1 - 1 - (n - 2) + 0 = 0 by omega]
    exact Int.zero_emod _
  · rw [if_neg hk, show k - 1 - (n - 2) + 0 = k + 1 + n * (-1) by omega, Int.add_mul_emod_self_left, Int.emod_eq_of_lt (by omega) (by omega)]
theorem seg_up (n x : Int) (hn : 2 ≤ n) (h : ownOk n x = true) : segOk n (ownR n x) 1 0 = true ∧ segR n (ownR n x) 1 0 true = x := by
  rw [own_val n x hn h]
  unfold ownOk at h
  simp only [Bool.and_eq_true, decide_eq_true_eq] at h
  have ho : segOk n (if x = 0 then n - 1 else x - 1) 1 0 = true := by
    unfold segOk
    split <;> (simp; omega)
  refine ⟨ho, ?_⟩
  unfold segR
  rw [if_pos ho]
  unfold segV
  simp only [if_true]
  by_cases h0 : x = 0
  · rw [if_pos h0, h0, show n - 1 - 0 + 1 = n by omega]
    exact Int.emod_self
  · rw [if_neg h0, show x - 1 - 0 + 1 = x by omega, Int.emod_eq_of_lt (by omega) (by omega)]
set_option maxHeartbeats 1000000 in
theorem owner_any (s b lo hi n c x : Int) (hn : 1 ≤ n ∧ n ≤ 64) (w : World) :
    Calls Try.prog 22 #[Jv s b lo hi n c, .int .i64 x] w fun e w' => e = .returned (.tuple #[.int .i64 (ownR n x), .bool (ownOk n x)]) ∧ Below w.heap.size w w' := by
  have al := (Below.refl w.heap.size w).alloc (Nat.le_refl _) (.cells (Jc s b lo hi n c) 32)
  have J0 := JobAt.new s b lo hi n c w 32
  unfold Jc at al J0
  cases h : ownOk n x
  · have HR : Hid (ownR n x = 0) := Lib.hid (by unfold ownR; rw [h]; rfl)
    have HE := Lib.hid (fun W => has_is s b lo hi n c x false h W)
    rw [HR.out]
    clear h
    unfold Jv at HE ⊢
    go_enter Try.func22, Try.ntmps22
    go_wp2_with fail
    refine (HE.out _).mono ?_
    rintro e w1 ⟨rfl, b1⟩
    go_wp2_with fail
    go_ret2
    exact ⟨rfl, below_step al b1⟩
  · have HR : Hid (ownR n x = (x - 1) % n) := Lib.hid (by unfold ownR; rw [h]; rfl)
    have HE := Lib.hid (fun W => has_is s b lo hi n c x true h W)
    have hb : 0 ≤ x ∧ x < n := by unfold ownOk at h; simpa using h
    obtain ⟨x0, x1⟩ := hb
    obtain ⟨n0, n1⟩ := hn
    have HAr := Lib.hid (fun W => around_any s b lo hi n c (x - 1) ⟨n0, n1⟩ ⟨by omega, by omega⟩ W)
    rw [HR.out]
    clear h
    unfold Jv at HE HAr ⊢
    go_enter Try.func22, Try.ntmps22
    go_wp2_with fail
    refine (HE.out _).mono ?_
    rintro e w1 ⟨rfl, b1⟩
    obtain ⟨c0, c1, c2, c3, c4, c5⟩ := J0.step b1
    have B1 := below_step al b1
    go_wp2_with fail
    refine (HAr.out _).mono ?_
    rintro e w2 ⟨rfl, b2⟩
    go_wp2_with fail
    go_ret2
    exact ⟨rfl, below_step B1 b2⟩
set_option maxHeartbeats 1000000 in
theorem refOwner_any (s b lo hi n c x : Int) (hn : 1 ≤ n ∧ n ≤ 64) (w : World) :
    Calls Try.prog 23 #[Jv s b lo hi n c, .int .i64 x] w fun e w' => e = .returned (.tuple #[.int .i64 (ownR n x), .bool (ownOk n x)]) ∧ Below w.heap.size w w' := by
  have al := (Below.refl w.heap.size w).alloc (Nat.le_refl _) (.cells (Jc s b lo hi n c) 25)
  have J0 := JobAt.new s b lo hi n c w 25
  unfold Jc at al J0
  obtain ⟨n0, n1⟩ := hn
  cases h : ownOk n x
  · have HR : Hid (ownR n x = 0) := Lib.hid (by unfold ownR; rw [h]; rfl)
    rw [HR.out]
    have hb : x < 0 ∨ (0 ≤ x ∧ n ≤ x) := by
      unfold ownOk at h
      simp only [Bool.and_eq_false_iff, decide_eq_false_iff_not] at h
      omega
    clear h
    unfold Jv
    rcases hb with hb | ⟨hb, hb2⟩
    · have g1 : decide (x < 0) = true := decide_eq_true hb
      go_enter Try.func23, Try.ntmps23
      go_wp2
      go_ret2
      exact ⟨rfl, al⟩
    · have g1 : decide (x < 0) = false := decide_eq_false (by omega)
      have g2 : decide (n ≤ x) = true := decide_eq_true hb2
      go_enter Try.func23, Try.ntmps23
      go_wp2
      go_ret2
      exact ⟨rfl, al⟩
  · have hb : 0 ≤ x ∧ x < n := by unfold ownOk at h; simpa using h
    obtain ⟨x0, x1⟩ := hb
    have g1 : decide (x < 0) = false := decide_eq_false (by omega)
    have g2 : decide (n ≤ x) = false := decide_eq_false (by omega)
    have HO := Lib.hid h
    clear h
    have HJ := Lib.hid (And.intro J0 al)
    obtain ⟨c0, c1, c2, c3, c4, c5⟩ := J0
    by_cases h1 : n = 1
    · subst h1
      have HR : Hid (ownR 1 x = 0) := Lib.hid (by unfold ownR; rw [HO.out, if_pos rfl, Int.emod_one])
      have HS : Hid (∀ k W, Calls Try.prog 12 #[Jv s b lo hi 1 c, .int .i64 k, .int .i64 0, .int .i64 (-1), .bool false] W fun e w' => e = .returned (.tuple #[.int .i64 0, .bool false]) ∧ Below W.heap.size W w') := Lib.hid (fun k W => by
        have := refSegment_any s b lo hi 1 c k 0 (-1) false (by omega) W
        have ho : segOk 1 k 0 (-1) = false := by unfold segOk; simp
        unfold segR at this
        rw [ho] at this
        exact this)
      rw [HR.out]
      unfold Jv at HS ⊢
      go_enter Try.func23, Try.ntmps23
      go_wp2_with fail
      clear c0 c1 c2 c3 c4 c5 al
      go_loopw [6, 7, 8] (fun i _ _ wr => ∃ k : Nat, k ≤ 1 ∧ i = .int .i64 k ∧ JobAt w.heap.size s b lo hi 1 c wr ∧ Below w.heap.size w wr) (fun i _ _ _ => 1 - (intOf i).toNat)
      case atStart => exact ⟨0, Nat.zero_le _, rfl, HJ.out⟩
      case round =>
        obtain ⟨k, hk, rfl, JJ, hB⟩ := hrel
        have JH := Lib.hid JJ
        obtain ⟨c0, c1, c2, c3, c4, c5⟩ := JJ
        by_cases hlt : k < 1
        · have g3 : decide ((k : Int) < 1) = true := decide_eq_true (by omega)
          go_wp2_with fail
          refine (HS.out _ _).mono ?_
          rintro e w1 ⟨rfl, b1⟩
          have J1 := Lib.hid (JH.out.step b1)
          have B1 := below_step hB b1
          clear c0 c1 c2 c3 c4 c5
          go_wp2_with fail
          refine ⟨⟨k + 1, by omega, by go_num, J1.out, B1⟩, ?_⟩
          show 1 - ((k : Int) + 1).toNat < 1 - ((k : Int)).toNat
          omega
        · have g3 : decide ((k : Int) < 1) = false := decide_eq_false (by omega)
          have hk1 : k = 1 := by omega
          subst hk1
          go_wp2_with fail
          go_ret2
          exact ⟨rfl, hB⟩
    · have hn2 : 2 ≤ n := by omega
      obtain ⟨own, hown⟩ : ∃ own : Nat, (own : Int) = ownR n x := ⟨(ownR n x).toNat, by rw [own_val n x hn2 HO.out]; split <;> omega⟩
      have hov := own_val n x hn2 HO.out
      rw [← hown] at hov
      have howb : own < n.toNat := by split at hov <;> omega
      have HOV := Lib.hid hov
      have HOWN := Lib.hid hown
      have wn : IntKind.i64.wrap (n - 2) = n - 2 := IntWalk.i64_in _ (by omega)
      clear hov hown
      rw [← HOWN.out]
      unfold Jv
      go_enter Try.func23, Try.ntmps23
      go_wp2_with fail
      clear c0 c1 c2 c3 c4 c5 al
      go_loopw [6, 7, 8] (fun i _ _ wr => ∃ k : Nat, k ≤ own ∧ i = .int .i64 k ∧ JobAt w.heap.size s b lo hi n c wr ∧ Below w.heap.size w wr) (fun i _ _ _ => own + 1 - (intOf i).toNat)
      case atStart => exact ⟨0, Nat.zero_le _, rfl, HJ.out⟩
      case round =>
        obtain ⟨k, hk, rfl, JJ, hB⟩ := hrel
        have JH := Lib.hid JJ
        obtain ⟨c0, c1, c2, c3, c4, c5⟩ := JJ
        have g3 : decide ((k : Int) < n) = true := decide_eq_true (by omega)
        have g4 : (k : Int) < n := by omega
        obtain ⟨so, sv⟩ := seg_down n k hn2 (by omega) (by omega)
        have HS := refSegment_any s b lo hi n c k 0 (n - 2) false ⟨n0, n1⟩
        rw [so, sv] at HS
        have hov := HOV.out
        by_cases hke : k = own
        · have e1 : (if (k : Int) = n - 1 then (0 : Int) else (k : Int) + 1) = x := by
            subst hke
            split at hov <;> split <;> omega
          rw [e1] at HS
          have HSS := Lib.hid HS
          have HKE := Lib.hid hke
          clear so sv HS e1 hov hke
          unfold Jv at HSS
          go_wp2_with fail
          refine (HSS.out _).mono ?_
          rintro e w1 ⟨rfl, b1⟩
          have hxx : (x == x) = true := by simp
          clear c0 c1 c2 c3 c4 c5
          go_wp2_with fail
          go_ret2
          rw [HKE.out]
          exact ⟨rfl, below_step hB b1⟩
        · have e1 : ((if (k : Int) = n - 1 then (0 : Int) else (k : Int) + 1) == x) = false := by
            simp only [beq_eq_false_iff_ne, ne_eq]
            intro e2
            split at e2 <;> split at hov <;> omega
          generalize (if (k : Int) = n - 1 then (0 : Int) else (k : Int) + 1) = y at *
          have HSS := Lib.hid HS
          clear so sv HS hov
          unfold Jv at HSS
          go_wp2_with fail
          refine (HSS.out _).mono ?_
          rintro e w1 ⟨rfl, b1⟩
          have J1 := Lib.hid (JH.out.step b1)
          have B1 := below_step hB b1
          clear c0 c1 c2 c3 c4 c5
          go_wp2_with fail
          refine ⟨⟨k + 1, by omega, by go_num, J1.out, B1⟩, ?_⟩
          show own + 1 - ((k : Int) + 1).toNat < own + 1 - ((k : Int)).toNat
          omega
end Go.Proofs.Ytokdolbmbjfhkaa
