/- Layer 2: split. -/
import Derived.Test.YtcnabebcckbfkaaDoorDecI
import Derived.Test.YtcnabebcckbfkaaDoorAppL
import Derived.WalkSmall
import Derived.WalkMore
import Derived.ScopeJumps
import Derived.Lib.OthersKept
import Derived.Lib.TrimU
namespace Go.Proofs.YtcnabebcckbfkaaDoor
open Go.RowKit
set_option linter.unusedVariables false
/-- what a text's runes lead to -/
def scan (s : ByteArray) : Nat → Nat → Bool → Bool → List Nat → List Nat → Option (Bool × List Nat × List Nat)
  | 0, _, neg, _, W, P => some (neg, W, P)
  | f + 1, pos, neg, pt, W, P =>
    if pos < s.size then
      if (Utf8.decode s pos).1 = 45 ∧ pos = 0 then scan s f (pos + (Utf8.decode s pos).2) true pt W P
      else if (Utf8.decode s pos).1 = 46 ∧ pt = false then scan s f (pos + (Utf8.decode s pos).2) neg true W P
      else if (Utf8.decode s pos).1 < 48 ∨ 57 < (Utf8.decode s pos).1 then none
      else if pt = true then scan s f (pos + (Utf8.decode s pos).2) neg pt W (P ++ [(Utf8.decode s pos).1 - 48])
      else scan s f (pos + (Utf8.decode s pos).2) neg pt (W ++ [(Utf8.decode s pos).1 - 48]) P
    else some (neg, W, P)
def splitR (s : ByteArray) (q : Int) : Option (Bool × List Nat × List Nat) := if inQ q = true ∧ s.size ≤ 83 then scan s s.size 0 false false [] [] else none
theorem elemInt2 : Elem Tryd.prog 38 3 (.int .i64 0) 1 8 := ⟨Tryd.underlying38, info_parts (by kernel_rfl), rfl, by decide⟩
structure SplitAt (w wr : World) (s : ByteArray) (pos : Nat) (W P : List Nat) (wv pv : Value) : Prop where
  c0 : wr.cell? ⟨w.heap.size, 0, none⟩ = some wv
  c1 : wr.cell? ⟨w.heap.size, 1, none⟩ = some pv
  f0 : wr.frozen? ⟨w.heap.size, 0, none⟩ = false
  f1 : wr.frozen? ⟨w.heap.size, 1, none⟩ = false
  it : wr.heap[w.heap.size + 1]? = some (.stringIter s pos)
  ow : wr.ownsRow (w.heap.size + 2) 3 1 wv W.length (cellsN W)
  op : wr.ownsRow (w.heap.size + 2) 3 1 pv P.length (cellsN P)
  ap : ∀ k, wv.ownBlock = some k → pv.ownBlock ≠ some k
  be : Below w.heap.size w wr
theorem SplitAt.iter {w wr : World} {s : ByteArray} {pos : Nat} {W P : List Nat} {wv pv : Value} (h : SplitAt w wr s pos W P wv pv) (pos' : Nat) : SplitAt w (wr.iterAt (w.heap.size + 1) s pos') s pos' W P wv pv := by
  have hb : (wr.iterAt (w.heap.size + 1) s pos').heap[w.heap.size]? = wr.heap[w.heap.size]? := Lib.iterAt_other _ _ _ _ _ (by omega)
  have hc : ∀ o, (wr.iterAt (w.heap.size + 1) s pos').cell? ⟨w.heap.size, o, none⟩ = wr.cell? ⟨w.heap.size, o, none⟩ := fun o => by simp only [World.cell?, hb]
  have hf : ∀ o, (wr.iterAt (w.heap.size + 1) s pos').frozen? ⟨w.heap.size, o, none⟩ = wr.frozen? ⟨w.heap.size, o, none⟩ := fun o => by simp only [World.frozen?, hb]
  exact ⟨(hc 0).trans h.c0, (hc 1).trans h.c1, (hf 0).trans h.f0, (hf 1).trans h.f1, Lib.iterAt_heap _ _ _ _ _ h.it, ownsRow_iterAt h.ow (by omega) _ _, ownsRow_iterAt h.op (by omega) _ _, h.ap, Lib.below_iterAt h.be (by omega) _ _⟩
theorem row_apart {w w' : World} {base size n : Nat} {row : Option Nat} {e : TypeId} {v : Value} {xs : List Value} (h : w.ownsRow base e size v n xs) (hg : w.grownBy w' row) (hr : ∀ k, row = some k → v.ownBlock ≠ some k) : w'.ownsRow base e size v n xs := by
  refine h.kept hg ?_
  cases row with
  | none => cases v.ownBlock <;> simp
  | some k => exact .inr fun e => hr k rfl e
theorem SplitAt.storeW {w wr w' : World} {s : ByteArray} {pos : Nat} {W P : List Nat} {wv pv : Value} (h : SplitAt w wr s pos W P wv pv) (d b cap : Nat) (ho : w'.ownsRow (w.heap.size + 2) 3 1 (.slice (some ⟨b, 0, none⟩) (W.length + 1) cap) (W.length + 1) (cellsN W ++ [.int .i64 (d : Int)]))
    (hg : wr.grownBy w' wv.ownBlock) (ha : wv.ownBlock = some b ∨ wr.heap.size < b) :
    (w'.cell? ⟨w.heap.size, 0, none⟩ = some wv ∧ w'.frozen? ⟨w.heap.size, 0, none⟩ = false) ∧ SplitAt w (w'.setCell ⟨w.heap.size, 0, none⟩ (.slice (some ⟨b, 0, none⟩) (W.length + 1) cap)) s pos (W ++ [d]) P (.slice (some ⟨b, 0, none⟩) (W.length + 1) cap) pv := by
  have hD : w.heap.size < wr.heap.size := World.block_lt_of_cell? _ _ h.c0
  have hD1 : w.heap.size + 1 < wr.heap.size := lt_of_block h.it
  have hne : ∀ k, wv.ownBlock = some k → w.heap.size + 2 ≤ k := fun k hk => (h.ow.lt k hk).1
  have hb0 : w'.heap[w.heap.size]? = wr.heap[w.heap.size]? := hg.block _ hD (fun e => by have := hne _ e.symm; omega)
  have hb1 : w'.heap[w.heap.size + 1]? = wr.heap[w.heap.size + 1]? := hg.block _ hD1 (fun e => by have := hne _ e.symm; omega)
  have hc : ∀ o, w'.cell? ⟨w.heap.size, o, none⟩ = wr.cell? ⟨w.heap.size, o, none⟩ := fun o => by simp only [World.cell?, hb0]
  have hf : ∀ o, w'.frozen? ⟨w.heap.size, o, none⟩ = wr.frozen? ⟨w.heap.size, o, none⟩ := fun o => by simp only [World.frozen?, hb0]
  have c0 := (hc 0).trans h.c0
  have hop := row_apart h.op hg h.ap
  have hrow : cellsN W ++ [.int .i64 (d : Int)] = cellsN (W ++ [d]) := by unfold cellsN; rw [List.map_append]; rfl
  rw [hrow] at ho
  refine ⟨⟨c0, (hf 0).trans h.f0⟩, World.cell?_setCell_same _ _ _ c0, (World.cell?_setCell_other _ _ _ _ (by simp)).trans ((hc 1).trans h.c1), by rw [World.frozen?_setCell]; exact (hf 0).trans h.f0, by rw [World.frozen?_setCell]; exact (hf 1).trans h.f1, ?_, ?_, ownsRow_setCell_below hop (a := ⟨w.heap.size, 0, none⟩) (show w.heap.size < w.heap.size + 2 by omega) _, ?_, below_set (h.be.grown hg (by omega) (fun k hk => by have := hne k hk; omega)) (Nat.le_refl _)⟩
  · rw [heap_setCell_other _ ⟨w.heap.size, 0, none⟩ _ _ (by simp)]
    exact hb1.trans h.it
  · rw [List.length_append]
    exact ownsRow_setCell_below ho (a := ⟨w.heap.size, 0, none⟩) (show w.heap.size < w.heap.size + 2 by omega) _
  · intro k hk
    have hkb : k = b := by simpa [Value.ownBlock, eq_comm] using hk
    subst hkb
    rcases ha with ha | ha
    · exact h.ap k ha
    · intro e
      have := (h.op.lt k e).2
      omega
theorem SplitAt.storeP {w wr w' : World} {s : ByteArray} {pos : Nat} {W P : List Nat} {wv pv : Value} (h : SplitAt w wr s pos W P wv pv) (d b cap : Nat) (ho : w'.ownsRow (w.heap.size + 2) 3 1 (.slice (some ⟨b, 0, none⟩) (P.length + 1) cap) (P.length + 1) (cellsN P ++ [.int .i64 (d : Int)]))
    (hg : wr.grownBy w' pv.ownBlock) (ha : pv.ownBlock = some b ∨ wr.heap.size < b) :
    (w'.cell? ⟨w.heap.size, 1, none⟩ = some pv ∧ w'.frozen? ⟨w.heap.size, 1, none⟩ = false) ∧ SplitAt w (w'.setCell ⟨w.heap.size, 1, none⟩ (.slice (some ⟨b, 0, none⟩) (P.length + 1) cap)) s pos W (P ++ [d]) wv (.slice (some ⟨b, 0, none⟩) (P.length + 1) cap) := by
  have hD : w.heap.size < wr.heap.size := World.block_lt_of_cell? _ _ h.c0
  have hD1 : w.heap.size + 1 < wr.heap.size := lt_of_block h.it
  have hne : ∀ k, pv.ownBlock = some k → w.heap.size + 2 ≤ k := fun k hk => (h.op.lt k hk).1
  have hb0 : w'.heap[w.heap.size]? = wr.heap[w.heap.size]? := hg.block _ hD (fun e => by have := hne _ e.symm; omega)
  have hb1 : w'.heap[w.heap.size + 1]? = wr.heap[w.heap.size + 1]? := hg.block _ hD1 (fun e => by have := hne _ e.symm; omega)
  have hc : ∀ o, w'.cell? ⟨w.heap.size, o, none⟩ = wr.cell? ⟨w.heap.size, o, none⟩ := fun o => by simp only [World.cell?, hb0]
  have hf : ∀ o, w'.frozen? ⟨w.heap.size, o, none⟩ = wr.frozen? ⟨w.heap.size, o, none⟩ := fun o => by simp only [World.frozen?, hb0]
  have c1 := (hc 1).trans h.c1
  have how := row_apart h.ow hg (fun k hk e => h.ap k e hk)
  have hrow : cellsN P ++ [.int .i64 (d : Int)] = cellsN (P ++ [d]) := by unfold cellsN; rw [List.map_append]; rfl
  rw [hrow] at ho
  refine ⟨⟨c1, (hf 1).trans h.f1⟩, (World.cell?_setCell_other _ _ _ _ (by simp)).trans ((hc 0).trans h.c0), World.cell?_setCell_same _ _ _ c1, by rw [World.frozen?_setCell]; exact (hf 0).trans h.f0, by rw [World.frozen?_setCell]; exact (hf 1).trans h.f1, ?_, ownsRow_setCell_below how (a := ⟨w.heap.size, 1, none⟩) (show w.heap.size < w.heap.size + 2 by omega) _, ?_, ?_, below_set (h.be.grown hg (by omega) (fun k hk => by have := hne k hk; omega)) (Nat.le_refl _)⟩
  · rw [heap_setCell_other _ ⟨w.heap.size, 1, none⟩ _ _ (by simp)]
    exact hb1.trans h.it
  · rw [List.length_append]
    exact ownsRow_setCell_below ho (a := ⟨w.heap.size, 1, none⟩) (show w.heap.size < w.heap.size + 2 by omega) _
  · intro k hk e
    have hkb : k = b := by simpa [Value.ownBlock, eq_comm] using e
    subst hkb
    rcases ha with ha | ha
    · exact h.ap k hk ha
    · have := (h.ow.lt k hk).2
      omega
def splitOut (w w' : World) (e : Ending) : Option (Bool × List Nat × List Nat) → Prop
  | none => e = .returned (.tuple #[.bool false, .agg #[.slice none 0 0, .slice none 0 0], .bool false])
  | some (neg, W, P) => ∃ wv pv, e = .returned (.tuple #[.bool neg, .agg #[wv, pv], .bool true]) ∧ w'.ownsRow w.heap.size 3 1 wv W.length (cellsN W) ∧ w'.ownsRow w.heap.size 3 1 pv P.length (cellsN P) ∧ (∀ k, wv.ownBlock = some k → pv.ownBlock ≠ some k) ∧ (∀ d ∈ W, d < 10) ∧ (∀ d ∈ P, d < 10) ∧ W.length ≤ 83 ∧ P.length ≤ 83
/-- where the text has no number: the result's cell is of the call's own -/
def BadAt (w wj : World) : Prop := ∃ x0 x1, wj.cell? ⟨w.heap.size, 0, none⟩ = some x0 ∧ wj.cell? ⟨w.heap.size, 1, none⟩ = some x1 ∧ wj.frozen? ⟨w.heap.size, 0, none⟩ = false ∧ wj.frozen? ⟨w.heap.size, 1, none⟩ = false ∧ Below w.heap.size w wj
theorem SplitAt.bad {w wr : World} {s : ByteArray} {pos : Nat} {W P : List Nat} {wv pv : Value} (h : SplitAt w wr s pos W P wv pv) : BadAt w wr := ⟨_, _, h.c0, h.c1, h.f0, h.f1, h.be⟩
theorem SplitAt.start (w : World) (s : ByteArray) : SplitAt w ((w.alloc (Obj.cells #[Value.slice none 0 0, Value.slice none 0 0] 90)).iter s 0) s 0 [] [] (.slice none 0 0) (.slice none 0 0) := by
  have al := (Below.refl (w.alloc (Obj.cells #[Value.slice none 0 0, Value.slice none 0 0] 90)).heap.size (w.alloc (Obj.cells #[Value.slice none 0 0, Value.slice none 0 0] 90))).alloc (Nat.le_refl _) (.stringIter s 0)
  have a0 := (Below.refl w.heap.size w).alloc (Nat.le_refl _) (Obj.cells #[Value.slice none 0 0, Value.slice none 0 0] 90)
  have c0 := (cell_new w #[Value.slice none 0 0, Value.slice none 0 0] 90 0).trans rfl
  have c1 := (cell_new w #[Value.slice none 0 0, Value.slice none 0 0] 90 1).trans rfl
  have f0 : (w.alloc (Obj.cells #[Value.slice none 0 0, Value.slice none 0 0] 90)).frozen? ⟨w.heap.size, 0, none⟩ = false := by simp only [World.frozen?]; rw [(MapKept.heap_alloc w (Obj.cells #[Value.slice none 0 0, Value.slice none 0 0] 90)).1]; rfl
  have f1 : (w.alloc (Obj.cells #[Value.slice none 0 0, Value.slice none 0 0] 90)).frozen? ⟨w.heap.size, 1, none⟩ = false := by simp only [World.frozen?]; rw [(MapKept.heap_alloc w (Obj.cells #[Value.slice none 0 0, Value.slice none 0 0] 90)).1]; rfl
  have hsz : (w.alloc (Obj.cells #[Value.slice none 0 0, Value.slice none 0 0] 90)).heap.size = w.heap.size + 1 := by simp
  have it := World.iter_heap (w.alloc (Obj.cells #[Value.slice none 0 0, Value.slice none 0 0] 90)) s 0
  rw [hsz] at it
  exact ⟨cell_step al c0, cell_step al c1, frozen_step al c0 f0, frozen_step al c1 f1, it, World.ownsRow_nil _ _ _ _, World.ownsRow_nil _ _ _ _, (fun k h => by cases h), a0.trans (al.mono (by omega))⟩
set_option maxHeartbeats 4000000 in
theorem split_any (s : ByteArray) (k : Nat) (hk : k ≤ 62) (hs : s.size ≤ 83) (w : World) :
    Calls Tryd.prog 55 #[.string s, .int .i64 k] w fun e w' => splitOut w w' e (scan s s.size 0 false false [] []) ∧ Below w.heap.size w w' := by
  have HR := Lib.hid (fun W => right2_any (k : Int) W)
  rw [show inQ (k : Int) = true by unfold inQ; simp; omega] at HR
  have hsi : ¬ 83 < (s.size : Int) := by omega
  obtain ⟨J, hJ⟩ : ∃ J : Act → World → Prop, J = (fun a' wj => ∃ u0 u1 u2 u3 u4 u6 u7 u8 u9 u10 u11 u12 u13 u14 u15 u16 u17 u18 u19 u20 u21 u22 u23 u24 u25 u26 u27 u28 u29 u30 u31 u32 u33 u34 u35 u36 u37 u38 u39 u40 u41 u42 u43 u44 u45 u46 u47 u48 u49 u50 u51 u52 u53 u54 u55 u56 u57 u58 u59 u60 u61 u62 u63 u64 u65 : Value, a' = { tmps := #[u0, u1, u2, u3, u4, (.pointer (some ⟨w.heap.size, 0, none⟩)), u6, u7, u8, u9, u10, u11, u12, u13, u14, u15, u16, u17, u18, u19, u20, u21, u22, u23, u24, u25, u26, u27, u28, u29, u30, u31, u32, u33, u34, u35, u36, u37, u38, u39, u40, u41, u42, u43, u44, u45, u46, u47, u48, u49, u50, u51, u52, u53, u54, u55, u56, u57, u58, u59, u60, u61, u62, u63, u64, u65], defers := [] } ∧ BadAt w wj ∧ Hid (scan s s.size 0 false false [] [] = none)) := ⟨_, rfl⟩
  have HJ := Lib.hid hJ
  clear hJ
  go_enter Tryd.func55, Tryd.ntmps55
  go_wp2_with fail
  refine wp_scope_jumps 0 J (fun _ _ => 0) rfl ?first ?pass
  case pass =>
    have hJ := HJ.out
    intro a' wj hj
    rw [hJ] at hj
    obtain ⟨u0, u1, u2, u3, u4, u6, u7, u8, u9, u10, u11, u12, u13, u14, u15, u16, u17, u18, u19, u20, u21, u22, u23, u24, u25, u26, u27, u28, u29, u30, u31, u32, u33, u34, u35, u36, u37, u38, u39, u40, u41, u42, u43, u44, u45, u46, u47, u48, u49, u50, u51, u52, u53, u54, u55, u56, u57, u58, u59, u60, u61, u62, u63, u64, u65, rfl, ⟨x0, x1, c0, c1, f0, f1, hB⟩, HSC⟩ := hj
    clear hJ HJ
    have hl := World.block_lt_of_cell? _ _ c0
    go_wp2_with fail
    simp only [Exit.jump]
    have c1' := (World.cell?_setCell_other wj ⟨w.heap.size, 0, none⟩ ⟨w.heap.size, 1, none⟩ (.slice none 0 0) (by simp)).trans c1
    have E0 := (World.cell?_setCell_other (wj.setCell ⟨w.heap.size, 0, none⟩ (.slice none 0 0)) ⟨w.heap.size, 1, none⟩ ⟨w.heap.size, 0, none⟩ (.slice none 0 0) (by simp)).trans (World.cell?_setCell_same wj ⟨w.heap.size, 0, none⟩ (.slice none 0 0) c0)
    have E1 := World.cell?_setCell_same (wj.setCell ⟨w.heap.size, 0, none⟩ (.slice none 0 0)) ⟨w.heap.size, 1, none⟩ (.slice none 0 0) c1'
    refine bodyPost_ret (v := .tuple #[.bool false, .agg #[.slice none 0 0, .slice none 0 0], .bool false]) (by simp [results, Tryd.results55, E0, E1, go_sem]) rfl ⟨?_, below_set (below_set hB (Nat.le_refl _)) (Nat.le_refl _)⟩
    rw [HSC.out]
    rfl
  case first =>
    go_wp2_with fail
    refine (HR.out _).mono ?_
    rintro e w' ⟨rfl, rfl⟩
    go_wp2_with fail
    go_loopw [4, 7] (fun nv ptv wr => ∃ (pos fuel : Nat) (neg pt : Bool) (W P : List Nat) (wv pv : Value), nv = .bool neg ∧ ptv = .bool pt ∧ Hid (scan s fuel pos neg pt W P = scan s s.size 0 false false [] []) ∧ s.size ≤ pos + fuel ∧ W.length + fuel ≤ s.size ∧ P.length + fuel ≤ s.size ∧ (∀ d ∈ W, d < 10) ∧ (∀ d ∈ P, d < 10) ∧ SplitAt w wr s pos W P wv pv) (fun _ _ wr => s.size - wr.iterPos (w.heap.size + 1))
    case atStart => exact ⟨0, s.size, false, false, [], [], _, _, rfl, rfl, Lib.hid rfl, by omega, by simp, by simp, by simp, by simp, SplitAt.start w s⟩
    case round =>
      obtain ⟨pos, fuel, neg, pt, W, P, wv, pv, rfl, rfl, HS, hf, hlW, hlP, hdW, hdP, hst⟩ := hrel
      have hq0 := iterPos_of hst.it
      by_cases hp : pos < s.size
      · have hnx : ∀ ty, (Instr.next (.pointer (some ⟨w.heap.size + 1, 0, none⟩)) true ty).run Tryd.prog wr = _ := fun ty => Lib.run_next_any_at wr (w.heap.size + 1) s pos ty hst.it hp
        have hw1 := Lib.width_pos s pos
        have hr31 := decode_le s pos
        obtain ⟨fuel, rfl⟩ : ∃ f', fuel = f' + 1 := ⟨fuel - 1, by omega⟩
        obtain ⟨r, hr⟩ : ∃ r, r = (Utf8.decode s pos).1 := ⟨_, rfl⟩
        obtain ⟨wd, hwd⟩ : ∃ r, r = (Utf8.decode s pos).2 := ⟨_, rfl⟩
        have X := hst.iter (pos + wd)
        have HSC := Lib.hid (show scan s (fuel + 1) pos neg pt W P = if r = 45 ∧ pos = 0 then scan s fuel (pos + wd) true pt W P else if r = 46 ∧ pt = false then scan s fuel (pos + wd) neg true W P else if r < 48 ∨ 57 < r then none else if pt = true then scan s fuel (pos + wd) neg pt W (P ++ [r - 48]) else scan s fuel (pos + wd) neg pt (W ++ [r - 48]) P by rw [scan, if_pos hp, ← hr, ← hwd])
        rw [← hr, ← hwd] at hnx
        rw [← hr] at hr31
        rw [← hwd] at hw1
        clear hr hwd hst
        obtain ⟨wi, hwi⟩ : ∃ wi, wi = wr.iterAt (w.heap.size + 1) s (pos + wd) := ⟨_, rfl⟩
        rw [← hwi] at hnx X
        clear hwi
        have hD2 : w.heap.size + 2 ≤ wi.heap.size := by have := lt_of_block X.it; omega
        have ri0 : (r : Int) ≤ 2147483647 := by omega
        by_cases cA : r = 45
        · subst cA
          by_cases c0 : pos = 0
          · subst c0
            have HT := Lib.hid (HSC.out.trans (if_pos ⟨rfl, rfl⟩))
            clear HSC
            go_wp2_with fail
            refine ⟨⟨0 + wd, fuel, true, pt, W, P, wv, pv, rfl, rfl, Lib.hid (HT.out.symm.trans HS.out), by omega, by omega, by omega, hdW, hdP, X⟩, ?_⟩
            have q1 : wi.iterPos (w.heap.size + 1) = 0 + wd := iterPos_of X.it
            show s.size - wi.iterPos (w.heap.size + 1) < s.size - wr.iterPos (w.heap.size + 1)
            rw [q1, hq0]
            omega
          · have HT := Lib.hid (HSC.out.trans ((if_neg (fun h => c0 h.2)).trans ((if_neg (fun h => absurd h.1 (by decide))).trans (if_pos (by decide)))))
            have c0i : ¬ (pos : Int) = 0 := by omega
            clear HSC
            have hJ := HJ.out
            go_wp2_with fail
            go_step3
            refine ⟨rfl, ?_⟩
            rw [hJ]
            exact ⟨_, _, _, _, _, _, _, _, _, _, _, _, _, _, _, _, _, _, _, _, _, _, _, _, _, _, _, _, _, _, _, _, _, _, _, _, _, _, _, _, _, _, _, _, _, _, _, _, _, _, _, _, _, _, _, _, _, _, _, _, _, _, _, _, _, rfl, X.bad, Lib.hid (HS.out.symm.trans HT.out)⟩
        · have ci : ¬ (r : Int) = 45 := by omega
          have HSC2 := Lib.hid (HSC.out.trans (if_neg (fun h => cA h.1)))
          clear HSC
          by_cases cB : r = 46
          · subst cB
            cases pt with
            | false =>
              have HT := Lib.hid (HSC2.out.trans (if_pos ⟨rfl, rfl⟩))
              clear HSC2
              go_wp2_with fail
              refine ⟨⟨pos + wd, fuel, neg, true, W, P, wv, pv, rfl, rfl, Lib.hid (HT.out.symm.trans HS.out), by omega, by omega, by omega, hdW, hdP, X⟩, ?_⟩
              have q1 : wi.iterPos (w.heap.size + 1) = pos + wd := iterPos_of X.it
              show s.size - wi.iterPos (w.heap.size + 1) < s.size - wr.iterPos (w.heap.size + 1)
              rw [q1, hq0]
              omega
            | true =>
              have HT := Lib.hid (HSC2.out.trans ((if_neg (fun h => absurd h.2 (by decide))).trans (if_pos (by decide))))
              clear HSC2
              have hJ := HJ.out
              go_wp2_with fail
              go_step3
              refine ⟨rfl, ?_⟩
              rw [hJ]
              exact ⟨_, _, _, _, _, _, _, _, _, _, _, _, _, _, _, _, _, _, _, _, _, _, _, _, _, _, _, _, _, _, _, _, _, _, _, _, _, _, _, _, _, _, _, _, _, _, _, _, _, _, _, _, _, _, _, _, _, _, _, _, _, _, _, _, _, rfl, X.bad, Lib.hid (HS.out.symm.trans HT.out)⟩
          · have cBi : ¬ (r : Int) = 46 := by omega
            have HSC3 := Lib.hid (HSC2.out.trans (if_neg (fun h => cB h.1)))
            clear HSC2
            by_cases cC : r < 48
            · have HT := Lib.hid (HSC3.out.trans (if_pos (.inl cC)))
              have cCi : (r : Int) < 48 := by omega
              clear HSC3
              have hJ := HJ.out
              go_wp2_with fail
              go_step3
              refine ⟨rfl, ?_⟩
              rw [hJ]
              exact ⟨_, _, _, _, _, _, _, _, _, _, _, _, _, _, _, _, _, _, _, _, _, _, _, _, _, _, _, _, _, _, _, _, _, _, _, _, _, _, _, _, _, _, _, _, _, _, _, _, _, _, _, _, _, _, _, _, _, _, _, _, _, _, _, _, _, rfl, X.bad, Lib.hid (HS.out.symm.trans HT.out)⟩
            · have cCi : ¬ (r : Int) < 48 := by omega
              by_cases cD : 57 < r
              · have HT := Lib.hid (HSC3.out.trans (if_pos (.inr cD)))
                have cDi : 57 < (r : Int) := by omega
                clear HSC3
                have hJ := HJ.out
                go_wp2_with fail
                go_step3
                refine ⟨rfl, ?_⟩
                rw [hJ]
                exact ⟨_, _, _, _, _, _, _, _, _, _, _, _, _, _, _, _, _, _, _, _, _, _, _, _, _, _, _, _, _, _, _, _, _, _, _, _, _, _, _, _, _, _, _, _, _, _, _, _, _, _, _, _, _, _, _, _, _, _, _, _, _, _, _, _, _, rfl, X.bad, Lib.hid (HS.out.symm.trans HT.out)⟩
              · have cDi : ¬ 57 < (r : Int) := by omega
                have HSC4 := Lib.hid (HSC3.out.trans (if_neg (by omega)))
                clear HSC3
                have ESUB := Lib.hid (show (r : Int) - 48 = ((r - 48 : Nat) : Int) by omega)
                cases pt with
                | true =>
                  have HT := Lib.hid (HSC4.out.trans (if_pos rfl))
                  have HDN := Lib.hid (show ∀ d ∈ P ++ [r - 48], d < 10 by intro d hd; rcases List.mem_append.1 hd with h | h; exact hdP d h; simp at h; omega)
                  clear HSC4
                  have x0 := X.c0
                  have x1 := X.c1
                  have hOW := Lib.hid X
                  go_wp2_with (at_builtin; refine append_one_lies elemInt2 rfl _ _ rfl rfl rfl rfl X.op rfl ?_ ?_ ?_ ?_ ?_; (simp [Value.oneCell']); (unfold maxLen; omega); omega; omega; intro b cap w6 ho6 hg6 hat6; have Z := hOW.out.storeP (r - 48) b cap (by rw [← ESUB.out]; exact ho6) hg6 hat6; have z0 := Z.1.1; have zf := Z.1.2; have Z2 := Lib.hid Z.2; clear ho6 hg6 hat6 Z x0 x1)
                  refine ⟨⟨pos + wd, fuel, neg, true, W, (P ++ [r - 48]), wv, _, rfl, rfl, Lib.hid (HT.out.symm.trans HS.out), by omega, by omega, by rw [List.length_append, List.length_singleton]; omega, hdW, HDN.out, Z2.out⟩, ?_⟩
                  have q1 := iterPos_of Z2.out.it
                  show s.size - World.iterPos _ (w.heap.size + 1) < s.size - wr.iterPos (w.heap.size + 1)
                  rw [q1, hq0]
                  omega
                | false =>
                  have HT := Lib.hid (HSC4.out.trans (if_neg (by decide)))
                  have HDN := Lib.hid (show ∀ d ∈ W ++ [r - 48], d < 10 by intro d hd; rcases List.mem_append.1 hd with h | h; exact hdW d h; simp at h; omega)
                  clear HSC4
                  have x0 := X.c0
                  have x1 := X.c1
                  have hOW := Lib.hid X
                  go_wp2_with (at_builtin; refine append_one_lies elemInt2 rfl _ _ rfl rfl rfl rfl X.ow rfl ?_ ?_ ?_ ?_ ?_; (simp [Value.oneCell']); (unfold maxLen; omega); omega; omega; intro b cap w6 ho6 hg6 hat6; have Z := hOW.out.storeW (r - 48) b cap (by rw [← ESUB.out]; exact ho6) hg6 hat6; have z0 := Z.1.1; have zf := Z.1.2; have Z2 := Lib.hid Z.2; clear ho6 hg6 hat6 Z x0 x1)
                  refine ⟨⟨pos + wd, fuel, neg, false, (W ++ [r - 48]), P, _, pv, rfl, rfl, Lib.hid (HT.out.symm.trans HS.out), by omega, by rw [List.length_append, List.length_singleton]; omega, by omega, HDN.out, hdP, Z2.out⟩, ?_⟩
                  have q1 := iterPos_of Z2.out.it
                  show s.size - World.iterPos _ (w.heap.size + 1) < s.size - wr.iterPos (w.heap.size + 1)
                  rw [q1, hq0]
                  omega
      · have hnx : ∀ ty, (Instr.next (.pointer (some ⟨w.heap.size + 1, 0, none⟩)) true ty).run Tryd.prog wr = _ := fun ty => Lib.run_next_end_at wr (w.heap.size + 1) s pos ty hst.it hp
        have HE := Lib.hid (show scan s s.size 0 false false [] [] = some (neg, W, P) by
          rw [← HS.out]
          cases fuel with
          | zero => rfl
          | succ f => rw [scan, if_neg hp])
        obtain ⟨aw, kw, rfl⟩ := own_value hst.ow
        obtain ⟨ap, kp, rfl⟩ := own_value hst.op
        have c0 := hst.c0
        have c1 := hst.c1
        have f0 := hst.f0
        have f1 := hst.f1
        have hl := World.block_lt_of_cell? _ _ c0
        go_wp2_with fail
        go_region
        go_wp2_with fail
        simp only [Exit.jump]
        have Y0 : (wr.setCell ⟨w.heap.size, 0, none⟩ (.slice aw W.length kw)).cell? ⟨w.heap.size, 1, none⟩ = some (.slice ap P.length kp) := (World.cell?_setCell_other _ _ _ _ (by simp)).trans c1
        have Y1 := World.cell?_setCell_same _ _ (.slice ap P.length kp) Y0
        have Y2 : ((wr.setCell ⟨w.heap.size, 0, none⟩ (.slice aw W.length kw)).setCell ⟨w.heap.size, 1, none⟩ (.slice ap P.length kp)).cell? ⟨w.heap.size, 0, none⟩ = some (.slice aw W.length kw) := (World.cell?_setCell_other _ _ _ _ (by simp)).trans (World.cell?_setCell_same _ _ _ c0)
        have E0 : ((wr.setCell ⟨w.heap.size, 0, none⟩ (.slice aw W.length kw)).setCell ⟨w.heap.size, 1, none⟩ (.slice ap P.length kp)).drew.cell? ⟨w.heap.size, 0, none⟩ = some (.slice aw W.length kw) := Y2
        have E1 : ((wr.setCell ⟨w.heap.size, 0, none⟩ (.slice aw W.length kw)).setCell ⟨w.heap.size, 1, none⟩ (.slice ap P.length kp)).drew.cell? ⟨w.heap.size, 1, none⟩ = some (.slice ap P.length kp) := Y1
        have OW := own_below (ownsRow_setCell_below (ownsRow_setCell_below hst.ow (a := ⟨w.heap.size, 0, none⟩) (show w.heap.size < w.heap.size + 2 by omega) (.slice aw W.length kw)) (a := ⟨w.heap.size, 1, none⟩) (show w.heap.size < w.heap.size + 2 by omega) (.slice ap P.length kp)) (Below.refl _ _).drew
        have OP := own_below (ownsRow_setCell_below (ownsRow_setCell_below hst.op (a := ⟨w.heap.size, 0, none⟩) (show w.heap.size < w.heap.size + 2 by omega) (.slice aw W.length kw)) (a := ⟨w.heap.size, 1, none⟩) (show w.heap.size < w.heap.size + 2 by omega) (.slice ap P.length kp)) (Below.refl _ _).drew
        have BE := (below_set (x := .slice ap P.length kp) (o := 1) (below_set (x := .slice aw W.length kw) (o := 0) hst.be (Nat.le_refl _)) (Nat.le_refl _)).drew
        have AP := hst.ap
        generalize ((wr.setCell ⟨w.heap.size, 0, none⟩ (.slice aw W.length kw)).setCell ⟨w.heap.size, 1, none⟩ (.slice ap P.length kp)).drew = wz at *
        refine bodyPost_ret (v := .tuple #[.bool neg, .agg #[.slice aw W.length kw, .slice ap P.length kp], .bool true]) (by simp [results, Tryd.results55, E0, E1, go_sem]) rfl ⟨?_, BE⟩
        rw [HE.out]
        exact ⟨_, _, rfl, owns_mono (by omega) OW, owns_mono (by omega) OP, AP, hdW, hdP, by omega, by omega⟩
end Go.Proofs.YtcnabebcckbfkaaDoor
