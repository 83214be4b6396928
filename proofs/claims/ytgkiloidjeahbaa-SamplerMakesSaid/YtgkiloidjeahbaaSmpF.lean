/- Layer 12: a stream of any list of draws; the closure that makes an order; New without a sampler. -/
import Derived.Test.YtgkiloidjeahbaaSmpE
namespace Go.Proofs.Ytgkiloidjeahbaa
open Go.RowKit
set_option linter.unusedVariables false
theorem cloneZ_u64 (ad : Addr) (c : Nat) (w : World) :
    Calls Try.prog 32 #[.slice (some ad) 0 c] w (ClonedTo 36 1 0 [] w) := by
  obtain ⟨i0, hi, hz0, hz1, hz2⟩ := info_parts (show (Try.prog.info? 36).map (fun i => (i.zero, i.size, i.bytes)) = some (some (.int .u64 0), 1, 8) by kernel_rfl)
  have q : ∀ (w : World) (a : Option Addr) (n c n' c' : Nat), (binOp .eql 22 (.slice a n c) (.slice none n' c')).run Try.prog w = .ok (.bool a.isNone) w := fun w a n c n' c' => Lib.run_eql_slice_nil w _ _ a n c n' c' Try.underlying22
  go_enter Try.func32, Try.ntmps32
  go_wp2_with (at_builtin; refine wpList_append_own _ rfl _ _ 22 rfl w.heap.size 36 i0 (.int .u64 0) 1 8 Try.underlying22 hi hz0 hz1 hz2 rfl (by decide) _ _ _ rfl (World.ownsRow_made w #[] 0 (Nat.le_refl _) (Nat.zero_le _) rfl) ad 0 c [] rfl rfl (by intro j u hj; simp at hj) (by intro u hu; cases hu) (by unfold maxLen; omega) (by omega) (by simp) ?_)
  intro v' w1 hown hgrow hnil
  have HO := Lib.hid hown
  have HG := Lib.hid hgrow
  clear hown hgrow hnil
  go_wp2
  go_ret
  exact ⟨v', rfl, by simpa using HO.out, ((Below.refl _ w).alloc (Nat.le_refl _) _).grown HG.out (by simp) (by intro k hk; simp [Value.ownBlock] at hk; omega)⟩
theorem cloneW_u64 (v : Value) (zs : List Int) (hm : zs.length * 8 ≤ 140737488351232) (w : World) (hL : IntsW .u64 w.heap.size w v zs) :
    Calls Try.prog 32 #[v] w (ClonedTo 36 1 zs.length (zs.map (Value.int .u64)) w) := by
  rcases hL with ⟨rfl, a, c, rfl⟩ | hL
  · exact cloneZ_u64 a c w
  · obtain ⟨a, c, rfl⟩ := ints_value hL
    exact clone_u64 a _ c zs hm w hL
theorem newW_any (v : Value) (zs : List Int) (hm : zs.length * 8 ≤ 140737488351232) (w : World) (hL : IntsW .u64 w.heap.size w v zs) :
    Calls Try.prog 21 #[v] w (NewStream zs 0 w) := by
  have HC := Lib.hid (cloneW_u64 v zs hm w hL)
  obtain ⟨a, c, rfl⟩ := hL.value
  clear hL
  go_enter Try.func21, Try.ntmps21
  go_wp2_with fail
  refine HC.out.mono ?_
  rintro e w1 ⟨u, rfl, ho, h1⟩
  have hU := Lib.hid (IntsAt.of_owns rfl ho)
  obtain ⟨a', c', rfl⟩ := own_value ho
  clear ho HC
  go_wp2
  go_ret
  exact ⟨_, rfl, h1.size, .fresh hU.out (Nat.zero_le _), h1.alloc h1.size _⟩
/-- what the closure gives -/
def Ordered (b : Nat) (zs : List Int) (k n : Nat) (w : World) (e : Ending) (w' : World) : Prop :=
  ∃ v, e = .returned v ∧ w'.ownsRow w.heap.size 3 1 v n ((shufL zs k n).map (Value.int .i64)) ∧ StreamAt b w' zs (k + (n - 1)) ∧ w.grownBy w' (some b)
theorem order_any (b B X : Nat) (zs : List Int) (hz : ∀ z ∈ zs, 0 ≤ z ∧ z < 18446744073709551616) (k : Nat) (hm : zs.length ≤ 1048576) (n : Nat) (hn : n ≤ 1048576) (hO : okS zs k n = true) (w : World) (h : StreamAt b w zs k)
    (hB : w.cell? ⟨B, 0, none⟩ = some (.int .i64 n)) (hX : w.cell? ⟨X, 0, none⟩ = some (.pointer (some ⟨b, 0, none⟩))) :
    Calls Try.prog 22 #[.pointer (some ⟨B, 0, none⟩), .pointer (some ⟨X, 0, none⟩)] w (Ordered b zs k n w) := by
  have HS := Lib.hid (shuffle_any b zs hz k hm (n : Int) (by omega) w h)
  unfold Shuffled at HS
  rw [hO] at HS
  clear h hO
  go_enter Try.func22, Try.ntmps22
  go_wp2_with fail
  refine HS.out.mono ?_
  rintro e w1 ⟨v, rfl, o1, s1, g1⟩
  have O1 := Lib.hid o1
  have S1 := Lib.hid s1
  have G1 := Lib.hid g1
  obtain ⟨a, c, rfl⟩ := own_value o1
  clear o1 s1 g1 HS
  go_wp2_with fail
  go_ret
  exact ⟨_, rfl, by simpa using O1.out, by simpa using S1.out, G1.out⟩
/-- the code of a run -/
def codeS (n size steps : Int) (len : Nat) : Int :=
  if n < 1 ∨ 1048576 < n ∨ steps < 0 ∨ 1048576 < steps then 2 else if size < 1 ∨ n < size then 7 else if (len : Int) < cntB steps (n / size) * needZ n then 8 else 0
end Go.Proofs.Ytgkiloidjeahbaa
