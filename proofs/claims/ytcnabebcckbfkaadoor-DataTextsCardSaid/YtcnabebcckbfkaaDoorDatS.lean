/- Layer 10: Pick. -/
import Derived.Test.YtcnabebcckbfkaaDoorDatR
import Derived.Test.YtcnabebcckbfkaaDoorDatT
namespace Go.Proofs.YtcnabebcckbfkaaDoor
open Go.RowKit
set_option linter.unusedVariables false
/-- two cells -/
def Two (w : World) (b : Nat) (t : TypeId) (x0 x1 : Value) : Prop := w.heap[b]? = some (.cells #[x0, x1] t (0, 0))
theorem Two.new (w : World) (t : TypeId) (x0 x1 : Value) : Two (w.alloc (.cells #[x0, x1] t)) w.heap.size t x0 x1 := (MapKept.heap_alloc _ _).1
theorem Two.lt {w : World} {b : Nat} {t : TypeId} {x0 x1 : Value} (h : Two w b t x0 x1) : b < w.heap.size := (Array.getElem?_eq_some_iff.1 h).1
theorem Two.later {w w' : World} {b : Nat} {t : TypeId} {x0 x1 : Value} (h : Two w b t x0 x1) (hb : Below w.heap.size w w') : Two w' b t x0 x1 := (hb.block b h.lt).trans h
theorem Two.cells {w : World} {b : Nat} {t : TypeId} {x0 x1 : Value} (h : Two w b t x0 x1) : w.cell? ⟨b, 0, none⟩ = some x0 ∧ w.cell? ⟨b, 1, none⟩ = some x1 := by
  have e : w.heap[b]? = _ := h
  exact ⟨by simp [World.cell?, e], by simp [World.cell?, e]⟩
theorem Two.frozen {w : World} {b : Nat} {t : TypeId} {x0 x1 : Value} (h : Two w b t x0 x1) (j : Nat) : w.frozen? ⟨b, j, none⟩ = false := by
  simp [World.frozen?, show w.heap[b]? = _ from h]
theorem Two.set_heap {w : World} {b : Nat} {t : TypeId} {x0 x1 : Value} (h : Two w b t x0 x1) (j : Nat) (v : Value) : (w.setCell ⟨b, j, none⟩ v).heap[b]? = some (.cells (#[x0, x1].setIfInBounds j v) t (0, 0)) := by
  obtain ⟨hlt, hk⟩ := Array.getElem?_eq_some_iff.1 h
  show (w.heap.modify b _)[b]? = _
  rw [Array.getElem?_eq_getElem (by rw [Array.size_modify]; exact hlt), Array.getElem_modify_self, hk]
  rfl
theorem Two.store {w : World} {b : Nat} {t : TypeId} {x0 x1 : Value} (h : Two w b t x0 x1) (y0 y1 : Value) : Two ((w.setCell ⟨b, 0, none⟩ y0).setCell ⟨b, 1, none⟩ y1) b t y0 y1 := by
  have s0 : Two _ b t y0 x1 := h.set_heap 0 y0
  exact s0.set_heap 1 y1
theorem pick1_in (E i n c : Nat) (b off : Nat) (ux uy : Value) (hi : i < n) (hn : n ≤ 1000) (w : World) (hE : w.cell? ⟨E, 0, none⟩ = some (.slice (some ⟨b, off, none⟩) n c)) (c0 : w.cell? ⟨b, off + i * 2, none⟩ = some ux) (c1 : w.cell? ⟨b, off + i * 2 + 1, none⟩ = some uy)
    (hx : ∃ ax lx cx, ux = .slice ax lx cx) (hy : ∃ ay ly cy, uy = .slice ay ly cy) :
    Calls Tryd.prog 42 #[.int .i64 i, .pointer (some ⟨E, 0, none⟩)] w fun e w' => e = .returned (.tuple #[.agg #[ux, uy], .bool true]) ∧ Below w.heap.size w w' := by
  obtain ⟨ax, lx, cx, rfl⟩ := hx
  obtain ⟨ay, ly, cy, rfl⟩ := hy
  have T := Two.new w 24 (.slice none 0 0) (.slice none 0 0)
  have bA := (Below.refl w.heap.size w).alloc (Nat.le_refl _) (.cells #[.slice none 0 0, .slice none 0 0] 24)
  have hE1 := cell_step bA hE
  have d0 := cell_step bA c0
  have d1 := cell_step bA c1
  have i0 : (0 : Int) ≤ (i : Int) := by omega
  have i1 : (i : Int) < (n : Int) := by omega
  have g1 : decide ((i : Int) < 0) = false := by simp
  have g2 : decide ((n : Int) ≤ (i : Int)) = false := by simp; omega
  clear hE c0 c1
  go_enter Tryd.func42, Tryd.ntmps42
  go_upto_region 1 with fail
  generalize w.alloc (.cells #[.slice none 0 0, .slice none 0 0] 24) = w1 at *
  obtain ⟨t0, t1⟩ := T.cells
  have f0 := T.frozen 0
  have f1 := T.frozen 1
  have SS := T.store (.slice ax lx cx) (.slice ay ly cy)
  have BB := Lib.hid (below_set (o := 1) (x := .slice ay ly cy) (below_set (o := 0) (x := .slice ax lx cx) bA (Nat.le_refl w.heap.size)) (Nat.le_refl w.heap.size))
  clear T bA
  generalize hN : w.heap.size = N at *
  go_wp2_with fail
  generalize (w1.setCell ⟨N, 0, none⟩ (.slice ax lx cx)).setCell ⟨N, 1, none⟩ (.slice ay ly cy) = W5 at *
  obtain ⟨y0, y1⟩ := SS.cells
  refine bodyPost_ret (v := .tuple #[.agg #[.slice ax lx cx, .slice ay ly cy], .bool true]) ?_ rfl ⟨rfl, by first | exact BB.out | (rw [hN]; exact BB.out)⟩
  clear SS BB
  simp [results, Tryd.results42, y0, y1, go_sem]
theorem pick1_out (E : Nat) (i : Int) (n c : Nat) (a : Option Addr) (hi : i < 0 ∨ (n : Int) ≤ i) (hn : n ≤ 1000) (w : World) (hE : w.cell? ⟨E, 0, none⟩ = some (.slice a n c)) :
    Calls Tryd.prog 42 #[.int .i64 i, .pointer (some ⟨E, 0, none⟩)] w fun e w' => e = .returned (.tuple #[.agg #[.slice none 0 0, .slice none 0 0], .bool false]) ∧ Below w.heap.size w w' := by
  have T := Two.new w 24 (.slice none 0 0) (.slice none 0 0)
  have bA := (Below.refl w.heap.size w).alloc (Nat.le_refl _) (.cells #[.slice none 0 0, .slice none 0 0] 24)
  have hE1 := cell_step bA hE
  clear hE
  by_cases hneg : i < 0
  · have g1 : decide (i < 0) = true := by simpa using hneg
    go_enter Tryd.func42, Tryd.ntmps42
    go_upto_region 1 with fail
    generalize w.alloc (.cells #[.slice none 0 0, .slice none 0 0] 24) = w1 at *
    obtain ⟨t0, t1⟩ := T.cells
    have f0 := T.frozen 0
    have f1 := T.frozen 1
    have SS := T.store (.slice none 0 0) (.slice none 0 0)
    have BB := Lib.hid (below_set (o := 1) (x := .slice none 0 0) (below_set (o := 0) (x := .slice none 0 0) bA (Nat.le_refl w.heap.size)) (Nat.le_refl w.heap.size))
    clear T bA
    generalize hN : w.heap.size = N at *
    go_wp2_with fail
    generalize (w1.setCell ⟨N, 0, none⟩ (.slice none 0 0)).setCell ⟨N, 1, none⟩ (.slice none 0 0) = W5 at *
    obtain ⟨y0, y1⟩ := SS.cells
    refine bodyPost_ret (v := .tuple #[.agg #[.slice none 0 0, .slice none 0 0], .bool false]) ?_ rfl ⟨rfl, by first | exact BB.out | (rw [hN]; exact BB.out)⟩
    clear SS BB
    simp [results, Tryd.results42, y0, y1, go_sem]
  · have g1 : decide (i < 0) = false := by simpa using hneg
    have g2 : decide ((n : Int) ≤ i) = true := by simp; omega
    have g3 : (n : Int) ≤ i := by omega
    go_enter Tryd.func42, Tryd.ntmps42
    go_upto_region 1 with fail
    generalize w.alloc (.cells #[.slice none 0 0, .slice none 0 0] 24) = w1 at *
    obtain ⟨t0, t1⟩ := T.cells
    have f0 := T.frozen 0
    have f1 := T.frozen 1
    have SS := T.store (.slice none 0 0) (.slice none 0 0)
    have BB := Lib.hid (below_set (o := 1) (x := .slice none 0 0) (below_set (o := 0) (x := .slice none 0 0) bA (Nat.le_refl w.heap.size)) (Nat.le_refl w.heap.size))
    clear T bA
    generalize hN : w.heap.size = N at *
    go_wp2_with fail
    generalize (w1.setCell ⟨N, 0, none⟩ (.slice none 0 0)).setCell ⟨N, 1, none⟩ (.slice none 0 0) = W5 at *
    obtain ⟨y0, y1⟩ := SS.cells
    refine bodyPost_ret (v := .tuple #[.agg #[.slice none 0 0, .slice none 0 0], .bool false]) ?_ rfl ⟨rfl, by first | exact BB.out | (rw [hN]; exact BB.out)⟩
    clear SS BB
    simp [results, Tryd.results42, y0, y1, go_sem]
/-- the examples with some indices -/
def pickD (es : List Ex) (xs : List Int) : List Ex := xs.map fun i => exAt es i.toNat
def okP (es : List Ex) (xs : List Int) : Prop := ∀ j, j < xs.length → 0 ≤ xs[j]?.getD 0 ∧ xs[j]?.getD 0 < (es.length : Int)
theorem pickD_length (es : List Ex) (xs : List Int) : (pickD es xs).length = xs.length := by simp [pickD]
theorem pickD_at (es : List Ex) (xs : List Int) (j : Nat) (h : j < xs.length) : exAt (pickD es xs) j = exAt es (xs[j]?.getD 0).toNat := by
  unfold exAt pickD
  rw [List.getElem?_map, List.getElem?_eq_getElem h]
  rfl
/-- the first k examples of a list: cells two by two, slices of what lies below n₀ -/
def PairsA (n₀ : Nat) (w : World) (cells : List Value) (es : List Ex) (k : Nat) : Prop :=
  cells.length = k * 2 ∧ ∀ j, j < k → ∃ vx vy, cells[j * 2]? = some vx ∧ cells[j * 2 + 1]? = some vy ∧ IntsW .i64 n₀ w vx (exAt es j).1 ∧ IntsW .i64 n₀ w vy (exAt es j).2
theorem PairsA.nil (n₀ : Nat) (w : World) (es : List Ex) : PairsA n₀ w [] es 0 := ⟨rfl, fun j hj => absurd hj (Nat.not_lt_zero j)⟩
theorem PairsA.below {n₀ : Nat} {w w' : World} {cells : List Value} {es : List Ex} {k : Nat} (h : PairsA n₀ w cells es k) (hb : Below n₀ w w') : PairsA n₀ w' cells es k :=
  ⟨h.1, fun j hj => by obtain ⟨vx, vy, h1, h2, h3, h4⟩ := h.2 j hj; exact ⟨vx, vy, h1, h2, h3.below hb, h4.below hb⟩⟩
theorem PairsA.snoc {n₀ : Nat} {w : World} {cells : List Value} {es : List Ex} {k : Nat} {vx vy : Value} (h : PairsA n₀ w cells es k) (hx : IntsW .i64 n₀ w vx (exAt es k).1) (hy : IntsW .i64 n₀ w vy (exAt es k).2) : PairsA n₀ w (cells ++ [vx, vy]) es (k + 1) := by
  refine ⟨by rw [List.length_append, h.1]; simp; omega, fun j hj => ?_⟩
  by_cases e : j = k
  · subst e
    refine ⟨vx, vy, ?_, ?_, hx, hy⟩
    · rw [List.getElem?_append_right (by rw [h.1]; omega), h.1, Nat.sub_self]; rfl
    · rw [List.getElem?_append_right (by rw [h.1]; omega), h.1, show j * 2 + 1 - j * 2 = 1 by omega]; rfl
  · obtain ⟨ux, uy, h1, h2, h3, h4⟩ := h.2 j (by omega)
    refine ⟨ux, uy, ?_, ?_, h3, h4⟩
    · rw [List.getElem?_append_left (by rw [h.1]; omega)]; exact h1
    · rw [List.getElem?_append_left (by rw [h.1]; omega)]; exact h2
/-- such a list is a slice of examples -/
theorem PairsA.exs {n₀ N : Nat} {w : World} {cells : List Value} {es : List Ex} {v : Value} (h : PairsA n₀ w cells es es.length) (ho : w.ownsRow N 24 2 v es.length cells) (hn : n₀ ≤ w.heap.size) : ExsAt w.heap.size w v es := by
  by_cases h0 : es.length = 0
  · have e := List.length_eq_zero_iff.1 h0
    subst e
    obtain ⟨a, c, rfl⟩ := own_value ho
    exact .inl ⟨rfl, a, c, rfl⟩
  · obtain ⟨g, c, rfl, hg1, hg2⟩ := own_some ho (by omega)
    have hcap : es.length ≤ c := by
      rcases ho.2 with ⟨e, _⟩ | ⟨g', c', cur, e, _, _, hc, _⟩
      · cases e
      · cases e; exact hc
    refine .inr ⟨g, 0, c, rfl, hcap, hg2, fun j hj => ?_⟩
    obtain ⟨vx, vy, h1, h2, h3, h4⟩ := h.2 j hj
    rw [Nat.zero_add]
    exact ⟨vx, vy, (ho.cellAt (j * 2) (by omega)).trans h1, (ho.cellAt (j * 2 + 1) (by omega)).trans h2, h3.grow hn, h4.grow hn⟩
theorem PairsO.pairsA {N : Nat} {w : World} {cells : List Value} {es : List Ex} {k : Nat} (h : PairsO N w cells es k) : PairsA w.heap.size w cells es k :=
  ⟨h.1, fun j hj => by obtain ⟨vx, vy, h1, h2, h3, h4⟩ := h.2 j hj; exact ⟨vx, vy, h1, h2, .inr (IntsAt.of_owns rfl h3), .inr (IntsAt.of_owns rfl h4)⟩⟩
/-- what picking gives: aliases of the examples with the indices -/
def PickedA (es : List Ex) (xs : List Int) (w : World) (e : Ending) (w' : World) : Prop :=
  (okP es xs ∧ ∃ v cells, e = .returned (.tuple #[v, .bool true]) ∧ w'.ownsRow w.heap.size 24 2 v xs.length cells ∧ PairsA w.heap.size w' cells (pickD es xs) xs.length ∧ Below w.heap.size w w') ∨
  (¬ okP es xs ∧ e = .returned (.tuple #[.slice none 0 0, .bool false]) ∧ Below w.heap.size w w')
set_option maxHeartbeats 4000000 in
theorem eachP_any (E : Nat) (lv v : Value) (es : List Ex) (xs : List Int) (hl : es.length ≤ 1000) (hx : xs.length ≤ 1000) (w : World) (hE : w.cell? ⟨E, 0, none⟩ = some lv) (hlv : ExsAt w.heap.size w lv es) (hv : IntsW .i64 w.heap.size w v xs) :
    Calls Tryd.prog 41 #[v, .func (.func 42) #[] #[.pointer (some ⟨E, 0, none⟩)]] w (PickedA es xs w) := by
  obtain ⟨a, c, rfl⟩ := hv.value
  obtain ⟨la, lc, rfl⟩ := hlv.value
  have HV := Lib.hid hv
  have HLV := Lib.hid hlv
  have HE := Lib.hid hE
  have X0 := Lib.hid (And.intro (World.ownsRow_nil w w.heap.size 24 2) (And.intro (PairsA.nil w.heap.size w (pickD es xs)) (Below.refl w.heap.size w)))
  have HOK0 : Hid (∀ j, j < 0 → 0 ≤ xs[j]?.getD 0 ∧ xs[j]?.getD 0 < (es.length : Int)) := Lib.hid (fun j hj => absurd hj (Nat.not_lt_zero j))
  have hEw : E < w.heap.size := World.block_lt_of_cell? _ _ hE
  clear hv hlv hE
  generalize hN : w.heap.size = N at *
  go_enter Tryd.func41, Tryd.ntmps41
  go_wp2_with fail
  go_loopw [6, 8, 9, 10, 13] (fun rv _ _ _ iv wr => ∃ k : Nat, ∃ cells : List Value, k ≤ xs.length ∧ iv = .int .i64 k ∧ Hid (∀ j, j < k → 0 ≤ xs[j]?.getD 0 ∧ xs[j]?.getD 0 < (es.length : Int)) ∧ Hid (wr.ownsRow N 24 2 rv k cells ∧ PairsA N wr cells (pickD es xs) k ∧ Below N w wr)) (fun _ _ _ _ iv _ => xs.length - (intOf iv).toNat)
  case atStart => exact ⟨0, [], Nat.zero_le _, rfl, HOK0, X0⟩
  case round =>
    clear X0 HOK0
    obtain ⟨k, cells, hk, rfl, HOK, HX⟩ := hrel
    have hNw : N ≤ wr.heap.size := by have := HX.out.2.2.size; omega
    have hEr := (HX.out.2.2.cell (p := ⟨E, 0, none⟩) hEw).trans HE.out
    by_cases hlt : k < xs.length
    · obtain ⟨b, off, rfl, hb, hc⟩ := HV.out.at' k hlt
      have c1 := (HX.out.2.2.cell (p := ⟨b, off + k, none⟩) hb).trans hc
      have i0 : (0 : Int) ≤ (k : Int) := by omega
      have i1 : (k : Int) < (xs.length : Int) := by omega
      obtain ⟨ra, rc, rfl⟩ := own_value HX.out.1
      by_cases hin : 0 ≤ xs[k]?.getD 0 ∧ xs[k]?.getD 0 < (es.length : Int)
      · obtain ⟨i, hi⟩ : ∃ i : Nat, xs[k]?.getD 0 = (i : Int) := ⟨(xs[k]?.getD 0).toNat, by omega⟩
        have hil : i < es.length := by omega
        have HPA := Lib.hid (pickD_at es xs k hlt)
        rw [hi, Int.toNat_natCast] at HPA
        have HOK2 : Hid (∀ j, j < k + 1 → 0 ≤ xs[j]?.getD 0 ∧ xs[j]?.getD 0 < (es.length : Int)) := Lib.hid (fun j hj => by
          rcases Nat.lt_succ_iff_lt_or_eq.1 hj with h | rfl
          · exact HOK.out j h
          · exact hin)
        obtain ⟨b2, off2, e2, hb2, ax, cx, ay, cy, d0, d1, ix, iy⟩ := (HLV.out.below HX.out.2.2).at hil
        cases e2
        rw [hi] at c1
        have HP := Lib.hid (pick1_in E i es.length lc b2 off2 _ _ hil hl wr hEr d0 d1 ⟨_, _, _, rfl⟩ ⟨_, _, _, rfl⟩)
        have HIX := Lib.hid (And.intro ix iy)
        clear hc hin hi d0 d1 ix iy hEr
        go_wp2_with fail
        refine HP.out.mono ?_
        rintro e w2 ⟨rfl, b2'⟩
        have B2 := Lib.hid b2'
        have bE := (Below.refl w2.heap.size w2).alloc (Nat.le_refl _) (.cells #[.slice ax (exAt es i).1.length cx, .slice ay (exAt es i).2.length cy] 24)
        have TE := Two.new w2 24 (.slice ax (exAt es i).1.length cx) (.slice ay (exAt es i).2.length cy)
        have B3 := Lib.hid (below_step B2.out bE)
        clear b2' HP B2 bE c1
        go_upto_region 6 with fail
        generalize w2.alloc (.cells #[.slice ax (exAt es i).1.length cx, .slice ay (exAt es i).2.length cy] 24) = w3 at *
        generalize w2.heap.size = G at *
        obtain ⟨t0, t1⟩ := TE.cells
        have OR := Lib.hid (own_below HX.out.1 B3.out)
        have PR := Lib.hid (HX.out.2.1.below (B3.out.mono hNw))
        have hN3 : N ≤ w3.heap.size := by have := B3.out.size; omega
        have BR := Lib.hid (HX.out.2.2.trans (B3.out.mono hNw))
        have HIX3 := Lib.hid (And.intro (HIX.out.1.below (B3.out.mono hNw)) (HIX.out.2.below (B3.out.mono hNw)))
        clear TE B3 HX HIX
        go_wp2_with (at_builtin; refine append_one_lies (g := w3.heap.size) elemX rfl _ _ rfl rfl rfl rfl OR.out rfl ?_ ?_ ?_ ?_ ?_; (simp [Value.oneCell']); (unfold maxLen; omega); omega; (exact hN3); intro b' cap' w9 ho' hg' hat9; have B9 := below_appended (Below.refl N w3) OR.out hg' (Nat.le_refl N) hN3; have X9 := Lib.hid (And.intro ho' (And.intro ((PR.out.below B9).snoc (by rw [HPA.out]; exact HIX3.out.1.below B9) (by rw [HPA.out]; exact HIX3.out.2.below B9)) (BR.out.trans B9))); clear ho' hg' hat9 B9)
        go_roundw
        case rel => exact ⟨k + 1, _, by omega, by go_num, HOK2, X9⟩
        case measure => simp [intOf]; omega
      · have HP := Lib.hid (pick1_out E (xs[k]?.getD 0) es.length lc la (by omega) hl wr hEr)
        have HNO : Hid (¬ okP es xs) := Lib.hid (fun h => hin (h k hlt))
        clear hc hin hEr
        generalize xs[k]?.getD 0 = x at *
        go_wp2_with fail
        refine HP.out.mono ?_
        rintro e w2 ⟨rfl, b2'⟩
        have bE := (Below.refl w2.heap.size w2).alloc (Nat.le_refl _) (.cells #[.slice none 0 0, .slice none 0 0] 24)
        have B3 := Lib.hid (HX.out.2.2.trans ((below_step b2' bE).mono hNw))
        clear b2' HP bE c1
        go_wp2_with fail
        go_ret2
        unfold PickedA
        rw [hN]
        exact .inr ⟨HNO.out, rfl, B3.out⟩
    · have hke : k = xs.length := by omega
      subst hke
      obtain ⟨ra, rc, rfl⟩ := own_value HX.out.1
      clear hEr
      go_wp2_with fail
      go_ret2
      unfold PickedA
      rw [hN]
      exact .inl ⟨HOK.out, _, cells, rfl, HX.out.1, HX.out.2.1, HX.out.2.2⟩
end Go.Proofs.YtcnabebcckbfkaaDoor
