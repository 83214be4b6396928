/- The example that each statement looks at; the hashes. -/
import Derived.Test.YtnojcgikgngniaaVecS
namespace Go.Proofs.Ytnojcgikgngniaa
open Go.RowKit
/-- a new slice of slices -/
theorem RowsAt.fresh {q : IntKind} {w : World} {cs : Array Value} {e : TypeId} {zss : List (List Int)} (hl : cs.toList.length = zss.length) (h : ∀ (j : Nat) (u : Value) (zs : List Int), cs.toList[j]? = some u → zss[j]? = some zs → IntsW q w.heap.size w u zs) :
    RowsAt q (w.alloc (.cells cs e)).heap.size (w.alloc (.cells cs e)) (.slice (some ⟨w.heap.size, 0, none⟩) zss.length zss.length) zss := by
  refine ⟨cs.toList, hl, SliceAt.fresh (by rw [hl]; omega) rfl, fun j u zs hu hz => ?_⟩
  have hb := (Below.refl w.heap.size w).alloc (Nat.le_refl _) (.cells cs e)
  exact ((h j u zs hu hz).below hb).grow hb.size
theorem rows_two {q : IntKind} {w : World} {u1 u2 : Value} {e : TypeId} {z1 z2 : List Int} (h1 : IntsW q w.heap.size w u1 z1) (h2 : IntsW q w.heap.size w u2 z2) :
    RowsAt q (w.alloc (.cells #[u1, u2] e)).heap.size (w.alloc (.cells #[u1, u2] e)) (.slice (some ⟨w.heap.size, 0, none⟩) 2 2) [z1, z2] := by
  refine RowsAt.fresh (zss := [z1, z2]) rfl fun j u zs hu hz => ?_
  rcases j with _ | _ | j
  · cases hu; cases hz; exact h1
  · cases hu; cases hz; exact h2
  · simp at hu
theorem rows_one {q : IntKind} {w : World} {u1 : Value} {e : TypeId} {z1 : List Int} (h1 : IntsW q w.heap.size w u1 z1) :
    RowsAt q (w.alloc (.cells #[u1] e)).heap.size (w.alloc (.cells #[u1] e)) (.slice (some ⟨w.heap.size, 0, none⟩) 1 1) [z1] := by
  refine RowsAt.fresh (zss := [z1]) rfl fun j u zs hu hz => ?_
  rcases j with _ | j
  · cases hu; cases hz; exact h1
  · simp at hu
set_option maxHeartbeats 1000000 in
theorem alive_any (w : World) :
    Calls Try.prog 10 #[] w fun e w' => e = .returned (.bool true) ∧ Below w.heap.size w w' := by
  go_enter Try.func10, Try.ntmps10
  go_wp2_with fail
  have b1 := (Below.refl w.heap.size w).alloc (Nat.le_refl _) (.cells #[.int .i64 1, .int .i64 2] 2)
  have i1 := IntsAt.fresh (q := .i64) (w := w) (cs := #[.int .i64 1, .int .i64 2]) (e := 2) (zs := [1, 2]) rfl
  have i2 := IntsAt.fresh (q := .i64) (w := w.alloc (.cells #[.int .i64 1, .int .i64 2] 2)) (cs := #[.int .i64 10, .int .i64 20]) (e := 2) (zs := [10, 20]) rfl
  have b2 := (Below.refl (w.alloc (.cells #[.int .i64 1, .int .i64 2] 2)).heap.size (w.alloc (.cells #[.int .i64 1, .int .i64 2] 2))).alloc (Nat.le_refl _) (.cells #[.int .i64 10, .int .i64 20] 2)
  have R := rows_two (e := 26) (.inr (i1.later b2)) (.inr i2)
  refine (vsum_any _ [[1, 2], [10, 20]] (by decide) (by decide) _ _ (Nat.le_refl _) ?_).mono ?_
  · simpa using R
  rintro e w2 ⟨v, rfl, ho, b3⟩
  have hI := ints_own ho
  have hs : sumL [[1, 2], [10, 20]] = [11, 22] := by decide +kernel
  have hk : sumOk [[1, 2], [10, 20]] = true := by decide
  rw [hs] at hI
  rw [hk]
  rcases hI.form with ⟨_, e0⟩ | ⟨g, off, cap, rfl, hcap, hg, hcs⟩
  · cases e0
  have c0 := hcs 0 (by decide)
  have c1 := hcs 1 (by decide)
  simp only [List.getElem?_cons_zero, List.getElem?_cons_succ, Option.getD_some, Nat.add_zero] at c0 c1
  have b4 := ((b1.alloc (by simp) (.cells #[.int .i64 10, .int .i64 20] 2)).alloc (by simp; omega) (.cells #[.slice (some ⟨w.heap.size, 0, none⟩) 2 2, .slice (some ⟨w.heap.size + 1, 0, none⟩) 2 2] 26)).trans (b3.mono (by simp; omega))
  have HB := Lib.hid b4
  clear b4 b3 b2 b1 R i1 i2 hI ho hcs hs hk
  have HN := Lib.hid hashL_nil
  have hz := HB.out.size
  go_wp2_with fail
  have b5 := (Below.refl w2.heap.size w2).alloc (Nat.le_refl _) (.cells #[] 2)
  refine (hash_any _ [] (by simp) _ _ (IntsAt.fresh (zs := []) rfl)).mono ?_
  rintro e w3 ⟨rfl, rfl⟩
  rw [HN.out]
  go_wp2_with fail
  go_ret
  exact ⟨rfl, below_step HB.out b5⟩
end Go.Proofs.Ytnojcgikgngniaa
