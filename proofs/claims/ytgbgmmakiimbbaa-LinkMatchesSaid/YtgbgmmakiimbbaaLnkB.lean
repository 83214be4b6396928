/- Layer 18: copies of a message. -/
import Derived.Test.YtgbgmmakiimbbaaLnkA
namespace Go.Proofs.Ytgbgmmakiimbbaa
open Go.RowKit
set_option linter.unusedVariables false
theorem elemV : Elem Try.prog 32 2 (.int .i64 0) 1 8 := ⟨Try.underlying32, info_parts (by kernel_rfl), rfl, by decide⟩
theorem elemM : Elem Try.prog 27 34 (.agg #[.int .i64 0, .int .i64 0, .int .i64 0, .int .i64 0, .int .i64 0, .slice none 0 0]) 6 64 := ⟨Try.underlying27, info_parts (by kernel_rfl), rfl, by decide⟩
theorem intsW_src {n₀ : Nat} {w : World} {v : Value} {zs : List Int} (h : IntsW .i64 n₀ w v zs) :
    (v = .slice none 0 0 ∧ zs.map (Value.int .i64) = []) ∨ ∃ ad c, v = .slice (some ad) zs.length c ∧ ∀ j y, (zs.map (Value.int .i64))[j]? = some y → w.cell? (ad.add j) = some y :=
  h.src.imp (fun ⟨x, y⟩ => ⟨x, by rw [y]; rfl⟩) id
theorem copied_any (v : Value) (zs : List Int) (hm : zs.length * 8 ≤ 140737488351232) (n₀ : Nat) (w : World) (hv : IntsW .i64 n₀ w v zs) :
    Calls Try.prog 34 #[v] w (ClonedTo 2 1 zs.length (zs.map (Value.int .i64)) w) := by
  have SRC := Lib.hid (intsW_src hv)
  have HO := Lib.hid (World.ownsRow_nil w w.heap.size 2 1)
  obtain ⟨a, c, rfl⟩ := hv.value
  clear hv
  go_enter Try.func34, Try.ntmps34
  go_wp2_with (at_builtin; refine append_list elemV rfl _ _ rfl rfl rfl HO.out (by simp) SRC.out ints_one ?_ ?_ (Nat.le_refl _) ?_; (unfold maxLen; omega); omega; intro v' w1 ho' hg'; have O1 := Lib.hid ho'; have B1 := Lib.hid (show Below w.heap.size w w1 from (Below.refl w.heap.size w).grown (show w.grownBy w1 none from hg') (Nat.le_refl _) (fun k e => by cases e)); clear ho' hg')
  go_ret
  exact ⟨_, rfl, by simpa using O1.out, B1.out⟩
/-- a copy of a message -/
def MsgCloned (t : Tg) (zs : List Int) (w : World) (e : Ending) (w' : World) : Prop := ∃ u, e = .returned (encM t u) ∧ w'.ownsRow w.heap.size 2 1 u zs.length (zs.map (Value.int .i64)) ∧ Below w.heap.size w w'
theorem own_base {w : World} {b b' n size : Nat} {e : TypeId} {v : Value} {xs : List Value} (h : w.ownsRow b e size v n xs) (hb : b' ≤ b) : w.ownsRow b' e size v n xs := by
  refine ⟨h.1, h.2.imp id ?_⟩
  rintro ⟨g, cap, cur, e0, hg, r⟩
  exact ⟨g, cap, cur, e0, Nat.le_trans hb hg, r⟩
set_option maxHeartbeats 1000000 in
theorem clone_any (t : Tg) (v : Value) (zs : List Int) (hm : zs.length * 8 ≤ 140737488351232) (n₀ : Nat) (w : World) (hn : n₀ ≤ w.heap.size) (hv : IntsW .i64 n₀ w v zs) :
    Calls Try.prog 30 #[encM t v] w (MsgCloned t zs w) := by
  unfold encM
  obtain ⟨a, c, rfl⟩ := hv.value
  obtain ⟨ta, tb, tc, td, te⟩ := t
  have bA := (Below.refl w.heap.size w).alloc (Nat.le_refl _) (.cells #[.int .i64 ta, .int .i64 tb, .int .i64 tc, .int .i64 td, .int .i64 te, .slice a zs.length c] 34)
  have bB := bA.alloc bA.size (.cells #[.int .i64 0, .int .i64 0, .int .i64 0, .int .i64 0, .int .i64 0, .slice none 0 0] 34)
  have s1 : Six (w.alloc (.cells #[.int .i64 ta, .int .i64 tb, .int .i64 tc, .int .i64 td, .int .i64 te, .slice a zs.length c] 34)) w.heap.size 34 (.int .i64 ta) (.int .i64 tb) (.int .i64 tc) (.int .i64 td) (.int .i64 te) (.slice a zs.length c) := (MapKept.heap_alloc _ _).1
  have s2 := s1.kept (World.grownBy_alloc _ (.cells #[.int .i64 0, .int .i64 0, .int .i64 0, .int .i64 0, .int .i64 0, .slice none 0 0] 34) none) (by simp)
  have hV := Lib.hid (hv.below (bB.mono hn))
  have hsz : ((w.alloc (.cells #[.int .i64 ta, .int .i64 tb, .int .i64 tc, .int .i64 td, .int .i64 te, .slice a zs.length c] 34)).alloc (.cells #[.int .i64 0, .int .i64 0, .int .i64 0, .int .i64 0, .int .i64 0, .slice none 0 0] 34)).heap.size = w.heap.size + 2 := by simp
  have r2 : Six ((w.alloc (.cells #[.int .i64 ta, .int .i64 tb, .int .i64 tc, .int .i64 td, .int .i64 te, .slice a zs.length c] 34)).alloc (.cells #[.int .i64 0, .int .i64 0, .int .i64 0, .int .i64 0, .int .i64 0, .slice none 0 0] 34)) (w.heap.size + 1) 34 (.int .i64 0) (.int .i64 0) (.int .i64 0) (.int .i64 0) (.int .i64 0) (.slice none 0 0) := by
    have := (MapKept.heap_alloc (w.alloc (.cells #[.int .i64 ta, .int .i64 tb, .int .i64 tc, .int .i64 td, .int .i64 te, .slice a zs.length c] 34)) (.cells #[.int .i64 0, .int .i64 0, .int .i64 0, .int .i64 0, .int .i64 0, .slice none 0 0] 34)).1
    rwa [World.size_alloc] at this
  clear s1 bA hv
  go_enter Try.func30, Try.ntmps30
  go_wp2_with fail
  generalize (w.alloc (.cells #[.int .i64 ta, .int .i64 tb, .int .i64 tc, .int .i64 td, .int .i64 te, .slice a zs.length c] 34)).alloc (.cells #[.int .i64 0, .int .i64 0, .int .i64 0, .int .i64 0, .int .i64 0, .slice none 0 0] 34) = W2 at *
  refine (copied_any _ zs hm _ W2 hV.out).mono ?_
  rintro e w3 ⟨u, rfl, hu, b3⟩
  have q1 := s2.later b3
  have q2 := r2.later b3
  obtain ⟨⟨c0, c1, c2⟩, c3, c4, c5⟩ := q1.cells
  have f5 := q1.frozen 5
  obtain ⟨⟨d0, d1, d2⟩, d3, d4, d5⟩ := q2.cells
  have g0 := q2.frozen 0
  have g1 := q2.frozen 1
  have g2 := q2.frozen 2
  have g3 := q2.frozen 3
  have g4 := q2.frozen 4
  have g5 := q2.frozen 5
  have Q2 := Lib.hid q2
  have HU := Lib.hid hu
  have B3 := Lib.hid (bB.trans (b3.mono (by omega)))
  have hs3 := b3.size
  obtain ⟨ua, uc, rfl⟩ := own_value hu
  clear q1 q2 s2 r2 b3 bB hu
  go_wp2_with fail
  have P1 := Lib.hid (Q2.out.kept (grown_set w3 w.heap.size 5 (.slice ua zs.length uc)) (fun e => absurd (Option.some.inj e) (by omega)))
  have P2 := P1.out.store (.int .i64 ta) (.int .i64 tb) (.int .i64 tc) (.int .i64 td) (.int .i64 te) (.slice ua zs.length uc)
  obtain ⟨⟨k0, k1, k2⟩, k3, k4, k5⟩ := P2.cells
  have B4 : Below w.heap.size w3 (w3.setCell ⟨w.heap.size, 5, none⟩ (.slice ua zs.length uc)) := below_set (Below.refl _ _) (Nat.le_refl _)
  have B5 := (below_six (w3.setCell ⟨w.heap.size, 5, none⟩ (.slice ua zs.length uc)) (w.heap.size + 1) (.int .i64 ta) (.int .i64 tb) (.int .i64 tc) (.int .i64 td) (.int .i64 te) (.slice ua zs.length uc)).mono (show w.heap.size ≤ w.heap.size + 1 by omega)
  have U5 := own_base (b' := w.heap.size) (row_six (b := w.heap.size + 1) (row_set (b := w.heap.size) (o := 5) HU.out (by omega) (.slice ua zs.length uc)) (by omega) (.int .i64 ta) (.int .i64 tb) (.int .i64 tc) (.int .i64 td) (.int .i64 te) (.slice ua zs.length uc)) (by omega)
  refine bodyPost_ret (v := .agg #[.int .i64 ta, .int .i64 tb, .int .i64 tc, .int .i64 td, .int .i64 te, .slice ua zs.length uc]) ?_ rfl ⟨_, rfl, U5, (B3.out.trans B4).trans B5⟩
  clear U5 B5 B4 P1 HU B3 P2
  generalize ((((((w3.setCell ⟨w.heap.size, 5, none⟩ (.slice ua zs.length uc)).setCell ⟨w.heap.size + 1, 0, none⟩ (.int .i64 ta)).setCell ⟨w.heap.size + 1, 1, none⟩ (.int .i64 tb)).setCell ⟨w.heap.size + 1, 2, none⟩ (.int .i64 tc)).setCell ⟨w.heap.size + 1, 3, none⟩ (.int .i64 td)).setCell ⟨w.heap.size + 1, 4, none⟩ (.int .i64 te)).setCell ⟨w.heap.size + 1, 5, none⟩ (.slice ua zs.length uc) = w9 at *
  simp [results, Try.results30, k0, k1, k2, k3, k4, k5, go_sem]
end Go.Proofs.Ytgbgmmakiimbbaa
