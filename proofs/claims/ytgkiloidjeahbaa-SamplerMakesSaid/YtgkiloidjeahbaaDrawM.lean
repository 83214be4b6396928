/- Many draws at once. -/
import Derived.Test.YtgkiloidjeahbaaDrawC
import Derived.LoopN
import Derived.Deep.RegionHeld3
import Derived.OwnWalk
import Derived.Test.YtgkiloidjeahbaaGen
namespace Go.Proofs.Ytgkiloidjeahbaa
open Go.RowKit
/-- the draws that come next, below bounds -/
def manyL (zs : List Int) : Nat → List Int → List Int
  | _, [] => []
  | k, n :: bs => (zs[k]?.getD 0) % n :: manyL zs (k + 1) bs
def manyB (zs : List Int) (k : Nat) (bs : List Int) : Bool := decide (bs.length + k ≤ zs.length) && bs.all fun n => decide (1 ≤ n)
theorem manyL_length (zs : List Int) (k : Nat) (bs : List Int) : (manyL zs k bs).length = bs.length := by
  induction bs generalizing k with
  | nil => rfl
  | cons n bs ih => simp [manyL, ih]
theorem manyL_take (zs : List Int) (k : Nat) (bs : List Int) (j : Nat) (hj : j < bs.length) : manyL zs k (bs.take (j + 1)) = manyL zs k (bs.take j) ++ [(zs[k + j]?.getD 0) % bs[j]?.getD 0] := by
  induction bs generalizing k j with
  | nil => simp at hj
  | cons n bs ih =>
    cases j with
    | zero => simp [manyL]
    | succ j =>
      simp only [List.take_succ_cons, manyL, List.cons_append]
      rw [ih (k + 1) j (by simpa using hj)]
      simp [Nat.add_assoc, Nat.add_comm 1 j]
theorem elemI : Elem Try.prog 38 3 (.int .i64 0) 1 8 := ⟨Try.underlying38, info_parts (by kernel_rfl), rfl, by decide⟩
theorem nextR_ok {zs : List Int} {k : Nat} {n : Int} (hn : 1 ≤ n) (hk : k < zs.length) : nextR zs k n = ((zs[k]?.getD 0) % n, true, k + 1) := by
  unfold nextR; rw [if_neg (by omega)]
def ManyDone (b : Nat) (zs : List Int) (k : Nat) (bs : List Int) (w : World) (e : Ending) (w' : World) : Prop :=
  if manyB zs k bs then ∃ v, e = .returned (.tuple #[v, .bool true]) ∧ w'.ownsRow w.heap.size 3 1 v bs.length ((manyL zs k bs).map (Value.int .i64)) ∧ StreamAt b w' zs (k + bs.length) ∧ w.grownBy w' (some b)
  else e = .returned (.tuple #[.slice none 0 0, .bool false]) ∧ StreamAt b w' zs k ∧ w.grownBy w' (some b)
/-! ### the reference -/
def RefSt (v : Value) (k : Nat) : Value := .agg #[v, .int .i64 k]
set_option maxHeartbeats 1000000 in
theorem refNext_any (v : Value) (zs : List Int) (hz : ∀ z ∈ zs, 0 ≤ z ∧ z < 18446744073709551616) (k : Nat) (hm : zs.length ≤ 1048576) (n : Int) (hn : -9223372036854775808 ≤ n ∧ n ≤ 9223372036854775807) (w : World) (hv : IntsAt .u64 w.heap.size w v zs) :
    Calls Try.prog 37 #[RefSt v k, .int .i64 n] w fun e w' => e = .returned (.tuple #[RefSt v (nextR zs k n).2.2, .int .i64 (nextR zs k n).1, .bool (nextR zs k n).2.1]) ∧ Below w.heap.size w w' := by
  obtain ⟨a, len, cap, rfl⟩ : ∃ a len cap, v = .slice a len cap := by
    rcases hv.form with ⟨e, _⟩ | ⟨b, off, cap, e, _⟩ <;> exact ⟨_, _, _, e⟩
  obtain rfl := hv.len
  unfold RefSt
  by_cases h1 : n < 1
  · have e1 : decide (n < 1) = true := by simpa using h1
    have hR : nextR zs k n = (0, false, k) := by unfold nextR; rw [if_pos (Or.inl h1)]
    rw [hR]
    go_enter Try.func37, Try.ntmps37
    go_wp2_with fail
    (try simp only [Exit.inBlock, Exit.then])
    refine bodyPost_ret (v := .tuple #[.agg #[.slice a zs.length cap, .int .i64 k], .int .i64 0, .bool false]) (by simp [results, Try.results37, go_sem]) rfl ⟨rfl, ?_⟩
    exact ((Below.refl _ _).alloc (Nat.le_refl _) _).alloc (by simp) _
  · have e1 : decide (n < 1) = false := by simpa using h1
    by_cases h2 : zs.length ≤ k
    · have e2 : decide ((zs.length : Int) ≤ k) = true := by simp; omega
      have hR : nextR zs k n = (0, false, k) := by unfold nextR; rw [if_pos (Or.inr h2)]
      rw [hR]
      go_enter Try.func37, Try.ntmps37
      go_wp2_with fail
      (try simp only [Exit.inBlock, Exit.then])
      refine bodyPost_ret (v := .tuple #[.agg #[.slice a zs.length cap, .int .i64 k], .int .i64 0, .bool false]) (by simp [results, Try.results37, go_sem]) rfl ⟨rfl, ?_⟩
      exact ((Below.refl _ _).alloc (Nat.le_refl _) _).alloc (by simp) _
    · have e2 : decide ((zs.length : Int) ≤ k) = false := by simp; omega
      have hR : nextR zs k n = ((zs[k]?.getD 0) % n, true, k + 1) := by unfold nextR; rw [if_neg (by omega)]
      rw [hR]
      rcases hv.form with ⟨_, e0⟩ | ⟨g, off, cap', e0, hcap, hg, hcs⟩
      · rw [e0] at h2; simp at h2
      cases e0
      have k0 : k < zs.length := by omega
      have cz := hcs k k0
      have z0 := hz (zs[k]?.getD 0) (by rw [List.getElem?_eq_getElem k0]; exact List.getElem_mem k0)
      clear hcs hR hv
      generalize zs[k]?.getD 0 = z at *
      have q0 := Int.emod_nonneg z (show n ≠ 0 by omega)
      have q1 := Int.emod_lt_of_pos z (show 0 < n by omega)
      have i0 : (0 : Int) ≤ (k : Int) := by omega
      have i1 : (k : Int) < (zs.length : Int) := by omega
      have wn : IntKind.u64.wrap n = n := IntWalk.u64_in _ (by omega)
      have wk : IntKind.i64.wrap ((k : Int) + 1) = k + 1 := IntWalk.i64_in _ (by omega)
      have wz : wrap64 (z % n) = z % n := by first | exact IntWalk.i64_in _ (by omega) | (rw [← IntKind.wrap_i64]; exact IntWalk.i64_in _ (by omega)) | (unfold wrap64; omega)
      have wz' : IntKind.i64.wrap (z % n) = z % n := IntWalk.i64_in _ (by omega)
      go_enter Try.func37, Try.ntmps37
      go_wp2_with fail
      go_region
      go_wp2_with fail
      (try simp only [Exit.inBlock, Exit.then])
      refine bodyPost_ret (v := .tuple #[.agg #[.slice (some ⟨g, off, none⟩) zs.length cap, .int .i64 (k + 1)], .int .i64 (z % n), .bool true]) (by simp [results, Try.results37, go_sem]) rfl ⟨rfl, ?_⟩
      exact (((Below.refl _ _).alloc (Nat.le_refl _) _).alloc (by simp) _).drew
end Go.Proofs.Ytgkiloidjeahbaa
