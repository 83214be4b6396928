/- Layer 8: split of any string. -/
import Derived.Test.YtdnaildhcnekfaaDoorShpJ
import Derived.Laws.RangeAny
import Derived.OneCell
import Derived.WalkSmall
import Derived.WalkMore
import Derived.ScopeJumps
import Derived.Lib.OthersKept
import Derived.Lib.TrimU
namespace Go.Proofs.YtdnaildhcnekfaaDoor
open Go.RowKit
set_option linter.unusedVariables false
/-- one number of three is another -/
def upd (ns : Nat → Int) (k : Nat) (y : Int) : Nat → Int := fun j => if j = k then y else ns j
/-- 10 times a number, and a digit -/
def digit10 (x : Int) (r : Nat) : Int := wrap64 (wrap64 (10 * x) + ((r : Int) - 48))
/-- the letter, and the numbers behind it -/
def scanN (s : ByteArray) : Nat → Nat → Int → Nat → (Nat → Int) → Int × (Nat → Int)
  | 0, _, L, _, ns => (L, ns)
  | f + 1, pos, L, k, ns =>
    if pos < s.size then
      if pos = 0 then scanN s f (pos + (Utf8.decode s pos).2) ((Utf8.decode s pos).1 : Nat) k ns
      else if (Utf8.decode s pos).1 = 46 ∧ k < 2 then scanN s f (pos + (Utf8.decode s pos).2) L (k + 1) ns
      else if 48 ≤ (Utf8.decode s pos).1 ∧ (Utf8.decode s pos).1 ≤ 57 then scanN s f (pos + (Utf8.decode s pos).2) L k (upd ns k (digit10 (ns k) (Utf8.decode s pos).1))
      else (L, ns)
    else (L, ns)
def splitN (s : ByteArray) : Int × (Nat → Int) := scanN s s.size 0 0 0 (fun _ => 0)
/-- three numbers in a block of the call's own, and an iterator over a string behind it -/
structure Nums (w wr : World) (s : ByteArray) (pos : Nat) (ns : Nat → Int) : Prop where
  c : ∀ j, j < 3 → wr.cell? ⟨w.heap.size, j, none⟩ = some (.int .i64 (ns j))
  f : ∀ j, j < 3 → wr.frozen? ⟨w.heap.size, j, none⟩ = false
  it : wr.heap[w.heap.size + 1]? = some (.stringIter s pos)
  be : Below w.heap.size w wr
theorem Nums.iter {w wr : World} {s : ByteArray} {pos : Nat} {ns : Nat → Int} (h : Nums w wr s pos ns) (pos' : Nat) : Nums w (wr.iterAt (w.heap.size + 1) s pos') s pos' ns := by
  have hb : (wr.iterAt (w.heap.size + 1) s pos').heap[w.heap.size]? = wr.heap[w.heap.size]? := Lib.iterAt_other _ _ _ _ _ (by omega)
  have hc : ∀ o, (wr.iterAt (w.heap.size + 1) s pos').cell? ⟨w.heap.size, o, none⟩ = wr.cell? ⟨w.heap.size, o, none⟩ := fun o => by simp only [World.cell?, hb]
  have hf : ∀ o, (wr.iterAt (w.heap.size + 1) s pos').frozen? ⟨w.heap.size, o, none⟩ = wr.frozen? ⟨w.heap.size, o, none⟩ := fun o => by simp only [World.frozen?, hb]
  exact ⟨fun j hj => by rw [hc]; exact h.c j hj, fun j hj => by rw [hf]; exact h.f j hj, Lib.iterAt_heap _ _ _ _ _ h.it, Lib.below_iterAt h.be (by omega) _ _⟩
theorem Nums.set {w wr : World} {s : ByteArray} {pos : Nat} {ns : Nat → Int} (h : Nums w wr s pos ns) (k : Nat) (hk : k < 3) (y : Int) : Nums w (wr.setCell ⟨w.heap.size, k, none⟩ (.int .i64 y)) s pos (upd ns k y) := by
  refine ⟨fun j hj => ?_, fun j hj => by rw [World.frozen?_setCell]; exact h.f j hj, ?_, below_set h.be (Nat.le_refl _)⟩
  · unfold upd
    by_cases e : j = k
    · subst e
      rw [if_pos rfl]
      exact World.cell?_setCell_same _ _ _ (h.c j hj)
    · rw [if_neg e]
      exact (World.cell?_setCell_other _ _ _ _ (by simp; first | done | omega)).trans (h.c j hj)
  · show (wr.heap.modify w.heap.size _)[w.heap.size + 1]? = _
    rw [Array.getElem?_modify, if_neg (by omega)]
    exact h.it
theorem Nums.start (w : World) (s : ByteArray) : Nums w ((w.alloc (Obj.cells #[Value.int .i64 0, Value.int .i64 0, Value.int .i64 0] 62)).iter s 0) s 0 (fun _ => 0) := by
  have al := (Below.refl (w.alloc (Obj.cells #[Value.int .i64 0, Value.int .i64 0, Value.int .i64 0] 62)).heap.size (w.alloc (Obj.cells #[Value.int .i64 0, Value.int .i64 0, Value.int .i64 0] 62))).alloc (Nat.le_refl _) (.stringIter s 0)
  have a0 := (Below.refl w.heap.size w).alloc (Nat.le_refl _) (Obj.cells #[Value.int .i64 0, Value.int .i64 0, Value.int .i64 0] 62)
  have hc : ∀ j, j < 3 → (w.alloc (Obj.cells #[Value.int .i64 0, Value.int .i64 0, Value.int .i64 0] 62)).cell? ⟨w.heap.size, j, none⟩ = some (.int .i64 0) := fun j hj => by
    rw [cell_new]
    rcases (show j = 0 ∨ j = 1 ∨ j = 2 by omega) with rfl | rfl | rfl <;> rfl
  have hf : ∀ j, (w.alloc (Obj.cells #[Value.int .i64 0, Value.int .i64 0, Value.int .i64 0] 62)).frozen? ⟨w.heap.size, j, none⟩ = false := fun j => by
    simp only [World.frozen?]
    rw [(MapKept.heap_alloc w (Obj.cells #[Value.int .i64 0, Value.int .i64 0, Value.int .i64 0] 62)).1]
    simp
  have hsz : (w.alloc (Obj.cells #[Value.int .i64 0, Value.int .i64 0, Value.int .i64 0] 62)).heap.size = w.heap.size + 1 := by simp
  have it := World.iter_heap (w.alloc (Obj.cells #[Value.int .i64 0, Value.int .i64 0, Value.int .i64 0] 62)) s 0
  rw [hsz] at it
  exact ⟨fun j hj => cell_step al (hc j hj), fun j hj => frozen_step al (hc j hj) (hf j), it, a0.trans (al.mono (by omega))⟩
theorem Nums.stored {w wi : World} {s : ByteArray} {pos : Nat} {ns : Nat → Int} (h : Nums w wi s pos ns) : ∃ wz, wz = (((wi.setCell ⟨w.heap.size, 0, none⟩ (.int .i64 (ns 0))).setCell ⟨w.heap.size, 1, none⟩ (.int .i64 (ns 1))).setCell ⟨w.heap.size, 2, none⟩ (.int .i64 (ns 2))).drew ∧
    wz.cell? ⟨w.heap.size, 0, none⟩ = some (.int .i64 (ns 0)) ∧ wz.cell? ⟨w.heap.size, 1, none⟩ = some (.int .i64 (ns 1)) ∧ wz.cell? ⟨w.heap.size, 2, none⟩ = some (.int .i64 (ns 2)) ∧ Below w.heap.size w wz := by
  refine ⟨_, rfl, ?_, ?_, ?_, (below_set (below_set (below_set h.be (Nat.le_refl _)) (Nat.le_refl _)) (Nat.le_refl _)).drew⟩
  · exact (World.cell?_setCell_other _ _ _ _ (by simp)).trans ((World.cell?_setCell_other _ _ _ _ (by simp)).trans (World.cell?_setCell_same _ _ _ (h.c 0 (by omega))))
  · exact (World.cell?_setCell_other _ _ _ _ (by simp)).trans (World.cell?_setCell_same _ _ _ ((World.cell?_setCell_other _ _ _ _ (by simp)).trans (h.c 1 (by omega))))
  · exact World.cell?_setCell_same _ _ _ ((World.cell?_setCell_other _ _ _ _ (by simp)).trans ((World.cell?_setCell_other _ _ _ _ (by simp)).trans (h.c 2 (by omega))))
theorem iterPos_of {wr : World} {b : Nat} {s : ByteArray} {pos : Nat} (h : wr.heap[b]? = some (.stringIter s pos)) : wr.iterPos b = pos := by
  simp [World.iterPos, h]
/-- where the scan ends -/
def NumsOut (w : World) (L : Int) (ns : Nat → Int) (L' : Int) (wr : World) : Prop := L' = L ∧ ∃ s pos, Nums w wr s pos ns
set_option maxRecDepth 4000 in
set_option maxHeartbeats 2000000 in
theorem splitS_any (s : ByteArray) (hs : s.size ≤ 1000) (w : World) :
    Calls Tryd.prog 35 #[.string s] w fun e w' => e = .returned (.tuple #[.int .i32 (splitN s).1, .agg #[.int .i64 ((splitN s).2 0), .int .i64 ((splitN s).2 1), .int .i64 ((splitN s).2 2)]]) ∧ Below w.heap.size w w' := by
  unfold splitN
  go_enter Tryd.func35, Tryd.ntmps35
  go_wp2_with fail
  refine wp_scope_jumps 0 (fun _ _ => False) (fun _ _ => 0) rfl ?first (fun _ _ h => h.elim)
  go_wp2_with fail
  go_step3
  go_wp2_with fail
  go_loopw [2, 4] (fun lv av wr => ∃ (pos fuel k : Nat) (L : Int) (ns : Nat → Int), lv = .int .i32 L ∧ av = .int .i64 k ∧ k < 3 ∧ Hid (scanN s fuel pos L k ns = scanN s s.size 0 0 0 (fun _ => 0)) ∧ s.size ≤ pos + fuel ∧ Nums w wr s pos ns) (fun _ _ wr => s.size - wr.iterPos (w.heap.size + 1))
  case atStart => exact ⟨0, s.size, 0, 0, fun _ => 0, rfl, rfl, by omega, Lib.hid rfl, by omega, Nums.start w s⟩
  case round =>
    obtain ⟨pos, fuel, k, L, ns, rfl, rfl, hk, HS, hf, hst⟩ := hrel
    have hq0 := iterPos_of hst.it
    by_cases hp : pos < s.size
    · have hnx : ∀ ty, (Instr.next (.pointer (some ⟨w.heap.size + 1, 0, none⟩)) true ty).run Tryd.prog wr = _ := fun ty => Lib.run_next_any_at wr (w.heap.size + 1) s pos ty hst.it hp
      have hw1 := Lib.width_pos s pos
      have hr31 := decode_le s pos
      obtain ⟨fuel, rfl⟩ : ∃ f', fuel = f' + 1 := ⟨fuel - 1, by omega⟩
      obtain ⟨r, hr⟩ : ∃ r, r = (Utf8.decode s pos).1 := ⟨_, rfl⟩
      obtain ⟨wd, hwd⟩ : ∃ r, r = (Utf8.decode s pos).2 := ⟨_, rfl⟩
      have X := hst.iter (pos + wd)
      have HSC := Lib.hid (show scanN s (fuel + 1) pos L k ns = if pos = 0 then scanN s fuel (pos + wd) r k ns else if r = 46 ∧ k < 2 then scanN s fuel (pos + wd) L (k + 1) ns else if 48 ≤ r ∧ r ≤ 57 then scanN s fuel (pos + wd) L k (upd ns k (digit10 (ns k) r)) else (L, ns) by rw [scanN, if_pos hp, ← hr, ← hwd])
      rw [← hr, ← hwd] at hnx
      rw [← hr] at hr31
      rw [← hwd] at hw1
      clear hr hwd hst
      obtain ⟨wi, hwi⟩ : ∃ wi, wi = wr.iterAt (w.heap.size + 1) s (pos + wd) := ⟨_, rfl⟩
      rw [← hwi] at hnx X
      clear hwi
      have HX := Lib.hid X
      have hcX := X.c k hk
      have hfX := X.f k hk
      clear X
      have ri0 : (r : Int) ≤ 2147483647 := by omega
      by_cases c0 : pos = 0
      · subst c0
        have HT := Lib.hid (HSC.out.trans (if_pos rfl))
        clear HSC
        go_wp2_with fail
        refine ⟨⟨0 + wd, fuel, k, r, ns, rfl, rfl, hk, Lib.hid (HT.out.symm.trans HS.out), by omega, HX.out⟩, ?_⟩
        have q1 : wi.iterPos (w.heap.size + 1) = 0 + wd := iterPos_of HX.out.it
        show s.size - wi.iterPos (w.heap.size + 1) < s.size - wr.iterPos (w.heap.size + 1)
        rw [q1, hq0]
        omega
      · have c0i : ¬ (pos : Int) = 0 := by omega
        have HSC2 := Lib.hid (HSC.out.trans (if_neg c0))
        clear HSC
        by_cases cB : r = 46 ∧ k < 2
        · have HT := Lib.hid (HSC2.out.trans (if_pos cB))
          obtain ⟨rfl, k2⟩ := cB
          have g1 : decide ((k : Int) < 2) = true := by simp; omega
          have wk : IntKind.i64.wrap ((k : Int) + 1) = ((k + 1 : Nat) : Int) := (IntWalk.i64_in _ (by omega)).trans (by omega)
          clear HSC2
          go_wp2_with fail
          refine ⟨⟨pos + wd, fuel, k + 1, L, ns, rfl, by first | rfl | (simp [wk]; done) | (congr 1; omega), by omega, Lib.hid (HT.out.symm.trans HS.out), by omega, HX.out⟩, ?_⟩
          have q1 : wi.iterPos (w.heap.size + 1) = pos + wd := iterPos_of HX.out.it
          show s.size - wi.iterPos (w.heap.size + 1) < s.size - wr.iterPos (w.heap.size + 1)
          rw [q1, hq0]
          omega
        · have HSC3 := Lib.hid (HSC2.out.trans (if_neg cB))
          clear HSC2
          have g46 : (r : Int) = 46 → decide ((k : Int) < 2) = false := fun h => by simp; omega
          by_cases cD : 48 ≤ r ∧ r ≤ 57
          · have HT := Lib.hid (HSC3.out.trans (if_pos cD))
            have c46 : ¬ (r : Int) = 46 := by omega
            have c48 : (48 : Int) ≤ (r : Int) := by omega
            have c57 : (r : Int) ≤ 57 := by omega
            clear HSC3 cB g46
            go_wp2_with fail
            have hN := HX.out.set k hk (digit10 (ns k) r)
            refine ⟨⟨pos + wd, fuel, k, L, _, rfl, rfl, hk, Lib.hid (HT.out.symm.trans HS.out), by omega, hN⟩, ?_⟩
            have q1 := iterPos_of hN.it
            show s.size - (wi.setCell ⟨w.heap.size, k, none⟩ (.int .i64 (digit10 (ns k) r))).iterPos (w.heap.size + 1) < s.size - wr.iterPos (w.heap.size + 1)
            rw [q1, hq0]
            omega
          · have HT := Lib.hid (HSC3.out.trans (if_neg cD))
            clear HSC3
            by_cases c46 : r = 46
            · subst c46
              have gk : decide ((k : Int) < 2) = false := g46 rfl
              clear g46 cB
              have t0 := HX.out.c 0 (by omega)
              have t1 := HX.out.c 1 (by omega)
              have t2 := HX.out.c 2 (by omega)
              have u0 := HX.out.f 0 (by omega)
              have u1 := HX.out.f 1 (by omega)
              have u2 := HX.out.f 2 (by omega)
              obtain ⟨wz, hwz, E0, E1, E2, BE⟩ := HX.out.stored
              go_wp2_with fail
              go_region
              go_wp2_with fail
              simp only [Exit.jump]
              rw [← hwz]
              refine bodyPost_ret (v := .tuple #[.int .i32 L, .agg #[.int .i64 (ns 0), .int .i64 (ns 1), .int .i64 (ns 2)]]) (by simp [results, Tryd.results35, E0, E1, E2, go_sem]) rfl ⟨?_, BE⟩
              rw [← HS.out, HT.out]
            · have c46i : ¬ (r : Int) = 46 := by omega
              clear g46 cB
              by_cases c48 : r < 48
              · have c48i : ¬ (48 : Int) ≤ (r : Int) := by omega
                have t0 := HX.out.c 0 (by omega)
                have t1 := HX.out.c 1 (by omega)
                have t2 := HX.out.c 2 (by omega)
                have u0 := HX.out.f 0 (by omega)
                have u1 := HX.out.f 1 (by omega)
                have u2 := HX.out.f 2 (by omega)
                obtain ⟨wz, hwz, E0, E1, E2, BE⟩ := HX.out.stored
                go_wp2_with fail
                go_region
                go_wp2_with fail
                simp only [Exit.jump]
                rw [← hwz]
                refine bodyPost_ret (v := .tuple #[.int .i32 L, .agg #[.int .i64 (ns 0), .int .i64 (ns 1), .int .i64 (ns 2)]]) (by simp [results, Tryd.results35, E0, E1, E2, go_sem]) rfl ⟨?_, BE⟩
                rw [← HS.out, HT.out]
              · have c48i : (48 : Int) ≤ (r : Int) := by omega
                have c57i : ¬ (r : Int) ≤ 57 := by omega
                have t0 := HX.out.c 0 (by omega)
                have t1 := HX.out.c 1 (by omega)
                have t2 := HX.out.c 2 (by omega)
                have u0 := HX.out.f 0 (by omega)
                have u1 := HX.out.f 1 (by omega)
                have u2 := HX.out.f 2 (by omega)
                obtain ⟨wz, hwz, E0, E1, E2, BE⟩ := HX.out.stored
                go_wp2_with fail
                go_region
                go_wp2_with fail
                simp only [Exit.jump]
                rw [← hwz]
                refine bodyPost_ret (v := .tuple #[.int .i32 L, .agg #[.int .i64 (ns 0), .int .i64 (ns 1), .int .i64 (ns 2)]]) (by simp [results, Tryd.results35, E0, E1, E2, go_sem]) rfl ⟨?_, BE⟩
                rw [← HS.out, HT.out]
    · have hnx : ∀ ty, (Instr.next (.pointer (some ⟨w.heap.size + 1, 0, none⟩)) true ty).run Tryd.prog wr = _ := fun ty => Lib.run_next_end_at wr (w.heap.size + 1) s pos ty hst.it hp
      have HT := Lib.hid (show scanN s fuel pos L k ns = (L, ns) by
        cases fuel with
        | zero => rfl
        | succ f => rw [scanN, if_neg hp])
      have HX := Lib.hid hst
      have t0 := HX.out.c 0 (by omega)
      have t1 := HX.out.c 1 (by omega)
      have t2 := HX.out.c 2 (by omega)
      have u0 := HX.out.f 0 (by omega)
      have u1 := HX.out.f 1 (by omega)
      have u2 := HX.out.f 2 (by omega)
      obtain ⟨wz, hwz, E0, E1, E2, BE⟩ := HX.out.stored
      go_wp2_with fail
      go_region
      go_wp2_with fail
      simp only [Exit.jump]
      rw [← hwz]
      refine bodyPost_ret (v := .tuple #[.int .i32 L, .agg #[.int .i64 (ns 0), .int .i64 (ns 1), .int .i64 (ns 2)]]) (by simp [results, Tryd.results35, E0, E1, E2, go_sem]) rfl ⟨?_, BE⟩
      rw [← HS.out, HT.out]
end Go.Proofs.YtdnaildhcnekfaaDoor
