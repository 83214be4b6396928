/- Many draws, again and again, and the reference beside them. -/
import Derived.Test.YtekmbeealkggmaaDrawB
import Derived.Test.YtekmbeealkggmaaRows2
namespace Go.Proofs.Ytekmbeealkggmaa
open Go.RowKit
theorem equal_same (v u : Value) (zs : List Int) (hl : zs.length ≤ 9223372036854775807) (n₁ n₂ : Nat) (w : World) (hv : IntsAt .i64 n₁ w v zs) (hu : IntsAt .i64 n₂ w u zs) :
    Calls Try.prog 15 #[v, u] w fun e w' => e = .returned (.bool true) ∧ Below w.heap.size w w' := by
  rcases Nat.eq_zero_or_pos zs.length with h0 | h0
  · have hz := List.length_eq_zero_iff.1 h0
    subst hz
    obtain ⟨a, c, rfl⟩ := (show ∃ a c, v = .slice a 0 c by rcases hv.form with ⟨rfl, _⟩ | ⟨b, off, cap, rfl, _⟩ <;> exact ⟨_, _, rfl⟩)
    obtain ⟨a', c', rfl⟩ := (show ∃ a c, u = .slice a 0 c by rcases hu.form with ⟨rfl, _⟩ | ⟨b, off, cap, rfl, _⟩ <;> exact ⟨_, _, rfl⟩)
    refine (Try.slices_Equal_int_empty a a' c 0 c' w (by omega)).mono ?_
    rintro e w' ⟨rfl, rfl⟩
    exact ⟨rfl, Below.refl _ _⟩
  · rcases hv.form with ⟨_, rfl⟩ | ⟨b, off, cap, rfl, hc, hb, hcs⟩
    · simp at h0
    rcases hu.form with ⟨_, rfl⟩ | ⟨b', off', cap', rfl, hc', hb', hcs'⟩
    · simp at h0
    refine (Try.slices_Equal_int b off zs.length cap b' off' zs.length cap' zs zs w (Nat.le_refl _) (Nat.le_refl _) hl hl (fun j hj => by rw [hcs j hj]; simp) (fun j hj => by rw [hcs' j hj]; simp)).mono ?_
    rintro e w' ⟨rfl, q, rfl⟩
    exact ⟨by simp, below_drewN (Below.refl _ _) q⟩
/-- what many draws give, and how many are used then -/
def manyO (zs : List Int) (k : Nat) (bs : List Int) : List Int := if manyB zs k bs then manyL zs k bs else []
def manyK (zs : List Int) (k : Nat) (bs : List Int) : Nat := if manyB zs k bs then k + bs.length else k
def ManyIs (b : Nat) (zs : List Int) (k : Nat) (bs : List Int) (w : World) (e : Ending) (w' : World) : Prop :=
  ∃ v, e = .returned (.tuple #[v, .bool (manyB zs k bs)]) ∧ w'.ownsRow w.heap.size 3 1 v (manyO zs k bs).length ((manyO zs k bs).map (Value.int .i64)) ∧ StreamAt b w' zs (manyK zs k bs) ∧ w.grownBy w' (some b)
theorem many_w (b : Nat) (zs : List Int) (hz : ∀ z ∈ zs, 0 ≤ z ∧ z < 18446744073709551616) (k : Nat) (hm : zs.length ≤ 1048576) (v : Value) (bs : List Int) (hbs : ∀ n ∈ bs, -9223372036854775808 ≤ n ∧ n ≤ 9223372036854775807) (hl : bs.length ≤ 1048576) (w : World) (h : StreamAt b w zs k) (n₀ : Nat) (h0 : n₀ ≤ b) (hv : IntsW .i64 n₀ w v bs) :
    Calls Try.prog 13 #[.pointer (some ⟨b, 0, none⟩), v] w (ManyIs b zs k bs w) := by
  rcases hv with ⟨rfl, a, c, rfl⟩ | hv
  · have hk := h.2.1
    have hF : manyB zs k [] = true := by unfold manyB; simp; omega
    have e2 : decide ((zs.length : Int) - k < 0) = false := by simp; omega
    go_enter Try.func13, Try.ntmps13
    go_wp2_with fail
    refine (left_any b zs k hm _ h).mono ?_
    rintro e w1 ⟨rfl, b1⟩
    have s1 := h.later b1
    have HF := Lib.hid hF
    clear hF
    go_wp2_with fail
    go_loopw [7, 24] (fun _ i wr => i = .int .i64 0 ∧ wr = w1) (fun _ _ _ => 0)
    case atStart => exact ⟨rfl, rfl⟩
    case round =>
      obtain ⟨rfl, rfl⟩ := hrel
      go_wp2_with fail
      go_loopw [8, 10, 11, 33] (fun l _ _ i wr2 => l = .slice none 0 0 ∧ i = .int .i64 0 ∧ wr2 = wr) (fun _ _ _ _ _ => 0)
      case atStart => exact ⟨rfl, rfl, rfl⟩
      case round =>
        obtain ⟨rfl, rfl, rfl⟩ := hrel
        go_wp2_with fail
        go_ret2
        unfold ManyIs manyO manyK
        rw [HF.out]
        exact ⟨_, rfl, World.ownsRow_nil _ _ _ _, s1, grown_below b1 _⟩
  · refine (many_any b zs hz k hm v bs hbs hl w h (hv.grow (Nat.le_trans h0 (Nat.le_of_lt h.1))) ?_).mono ?_
    · rintro g o n c rfl
      rcases hv.form with ⟨e, _⟩ | ⟨b', off, cap, e, _, hb, _⟩
      · cases e
      · cases e; omega
    · intro e w' hd
      unfold ManyDone at hd
      unfold ManyIs manyO manyK
      cases hB : manyB zs k bs
      · rw [hB] at hd
        obtain ⟨rfl, s, g⟩ := hd
        exact ⟨_, rfl, World.ownsRow_nil _ _ _ _, s, g⟩
      · rw [hB] at hd
        obtain ⟨v', rfl, o, s, g⟩ := hd
        refine ⟨v', rfl, ?_, s, g⟩
        simp only [if_true, manyL_length]
        exact o
def RefManyIs (v : Value) (zs : List Int) (k : Nat) (bs : List Int) (w : World) (e : Ending) (w' : World) : Prop :=
  ∃ o, e = .returned (.tuple #[RefSt v (manyK zs k bs), o, .bool (manyB zs k bs)]) ∧ w'.ownsRow w.heap.size 3 1 o (manyO zs k bs).length ((manyO zs k bs).map (Value.int .i64)) ∧ Below w.heap.size w w'
set_option maxHeartbeats 1000000 in
theorem refMany_w (v u : Value) (zs : List Int) (hz : ∀ z ∈ zs, 0 ≤ z ∧ z < 18446744073709551616) (k : Nat) (hk : k ≤ zs.length) (hm : zs.length ≤ 1048576) (bs : List Int) (hbs : ∀ n ∈ bs, -9223372036854775808 ≤ n ∧ n ≤ 9223372036854775807) (hl : bs.length ≤ 1048576) (w : World) (hv : IntsAt .u64 w.heap.size w v zs) (hu : IntsW .i64 w.heap.size w u bs) :
    Calls Try.prog 14 #[RefSt v k, u] w (RefManyIs v zs k bs w) := by
  rcases hu with ⟨rfl, a', c', rfl⟩ | hu
  · obtain ⟨a, len, cap, rfl⟩ : ∃ a len cap, v = .slice a len cap := by
      rcases hv.form with ⟨e, _⟩ | ⟨b, off, cap, e, _⟩ <;> exact ⟨_, _, _, e⟩
    have hF : manyB zs k [] = true := by unfold manyB; simp; omega
    unfold RefSt
    have HF := Lib.hid hF
    clear hF hv
    go_enter Try.func14, Try.ntmps14
    go_wp2_with fail
    go_loopw [8, 9] (fun o i wr => o = .slice none 0 0 ∧ i = .int .i64 0 ∧ wr = ((w.alloc (.cells #[.slice a len cap, .int .i64 k] 28)).alloc (.cells #[.slice none 0 0, .int .i64 0] 28)).alloc (.cells #[.slice a len cap, .int .i64 k] 28)) (fun _ _ _ => 0)
    case atStart => exact ⟨rfl, rfl, rfl⟩
    case round =>
      obtain ⟨rfl, rfl, rfl⟩ := hrel
      go_wp2_with fail
      (try simp only [Exit.inBlock, Exit.then])
      refine bodyPost_ret (v := .tuple #[.agg #[.slice a len cap, .int .i64 k], .slice none 0 0, .bool true]) (by simp [results, Try.results14, go_sem]) rfl ?_
      unfold RefManyIs manyO manyK RefSt
      rw [HF.out]
      refine ⟨_, rfl, World.ownsRow_nil _ _ _ _, ?_⟩
      exact (((Below.refl _ _).alloc (Nat.le_refl _) _).alloc (by simp) _).alloc (by simp <;> omega) _
  · refine (refMany_any v u zs hz k hk hm bs hbs hl w hv hu).mono ?_
    intro e w' hd
    unfold RefManyDone at hd
    unfold RefManyIs manyO manyK
    cases hB : manyB zs k bs
    · rw [hB] at hd
      obtain ⟨rfl, g⟩ := hd
      exact ⟨_, rfl, World.ownsRow_nil _ _ _ _, g⟩
    · rw [hB] at hd
      obtain ⟨v', rfl, o, g⟩ := hd
      refine ⟨v', rfl, ?_, g⟩
      simp only [if_true, manyL_length]
      exact o
theorem manyO_len (zs : List Int) (k : Nat) (bs : List Int) : (manyO zs k bs).length ≤ bs.length := by
  unfold manyO
  split
  · rw [manyL_length]; exact Nat.le_refl _
  · simp
end Go.Proofs.Ytekmbeealkggmaa
