/- Layer 7: Turn. -/
import Derived.Test.YtinflmjombcolaaMatK
import Derived.Test.YtinflmjombcolaaMatR
import Derived.Test.YtinflmjombcolaaMatT
namespace Go.Proofs.Ytinflmjombcolaa
open Go.RowKit Go.Shelf
set_option linter.unusedVariables false
theorem BoxM.grown {W W' : World} {B R C : Nat} {v : Value} {row : Option Nat} (h : BoxM W B R C v) (g : W.grownBy W' row) (hne : some B ≠ row) : BoxM W' B R C v := (g.block B h.lt hne).trans h
theorem boxM_own {β : Type} (B R C : Nat) (v : Value) : Own (fun (_ : β) W => BoxM W B R C v) := fun _ _ _ _ hs hg hrow =>
  hs.grown hg (fun e' => by obtain ⟨o, ho, hc⟩ := hrow B e'.symm; rw [show _ = _ from hs] at ho; cases ho; cases hc)
def MadeO (r c : Int) (zs : List Int) (w : World) (e : Ending) (w' : World) : Prop := ∃ v, e = .returned (.agg #[.int .i64 r, .int .i64 c, v]) ∧ w'.ownsRow w.heap.size 2 1 v zs.length (zs.map (Value.int .i64)) ∧ Below w.heap.size w w'
theorem made_own {r c : Int} {zs : List Int} {w w' : World} {e : Ending} (h : MadeO r c zs w e w') : Made r c zs w e w' := by
  obtain ⟨v, rfl, o, b⟩ := h
  exact ⟨v, rfl, .inr (ints_own o), b⟩
theorem ints_cells {q : IntKind} {n₀ b off n cap : Nat} {w : World} {zs : List Int} (h : IntsAt q n₀ w (.slice (some ⟨b, off, none⟩) n cap) zs) : ∀ j, j < zs.length → w.cell? ⟨b, off + j, none⟩ = some (.int q (zs[j]?.getD 0)) := by
  rcases h.form with ⟨e, _⟩ | ⟨b', off', cap', e, _, _, hc⟩
  · cases e
  · cases e
    exact hc
theorem row_own {β : Type} (n₀ : Nat) (e : TypeId) (size : Nat) (v : Value) (k : β → Nat) (f : β → List Value) : Own (fun s W => W.ownsRow n₀ e size v (k s) (f s)) := by
  rintro s X Y row hr hg hrow
  refine hr.kept hg ?_
  rcases hr.2 with ⟨rfl, _⟩ | ⟨g, cap, cur, rfl, _, hgb, _⟩
  · exact .inl rfl
  · refine .inr (fun e' => ?_)
    obtain ⟨o, ho, hc⟩ := hrow g (by rw [← e']; rfl)
    rw [hgb] at ho
    cases ho
    cases hc
theorem BoxM.cell3 {W : World} {B R C : Nat} {v : Value} (h : BoxM W B R C v) : Cell3 B W :=
  ⟨⟨_, h.cells.1⟩, ⟨_, h.cells.2.1⟩, ⟨_, h.cells.2.2⟩, by simp [World.frozen?, show W.heap[B]? = _ from h], by simp [World.frozen?, show W.heap[B]? = _ from h], by simp [World.frozen?, show W.heap[B]? = _ from h]⟩
theorem BoxM.not_row {W : World} {B R C base size k : Nat} {v u : Value} {e : TypeId} {xs : List Value} (h : BoxM W B R C u) (he : e ≠ 29) (hr : W.ownsRow base e size v k xs) : some B ≠ v.ownBlock := by
  rcases hr.2 with ⟨rfl, _⟩ | ⟨g, cap, cur, rfl, _, hgb, _⟩
  · simp [Value.ownBlock]
  · intro e'
    obtain rfl : B = g := by simpa [Value.ownBlock] using e'
    have := (show W.heap[B]? = _ from h).symm.trans hgb
    simp at this
    exact he this.2.symm
set_option maxHeartbeats 1000000 in
theorem turn_no (r c : Int) (a : Option Addr) (n cap : Nat) (h : rightB r c n = false) (w : World) :
    Calls Try.prog 25 #[.agg #[.int .i64 r, .int .i64 c, .slice a n cap]] w (MadeO 0 0 [] w) := by
  have AL1 := (Below.refl w.heap.size w).alloc (Nat.le_refl _) (.cells #[.int .i64 r, .int .i64 c, .slice a n cap] 29)
  have AL2 := Lib.hid (below_alloc (o := .cells #[.int .i64 0, .int .i64 0, .slice none 0 0] 29) AL1)
  have hs : (w.alloc (.cells #[.int .i64 r, .int .i64 c, .slice a n cap] 29)).heap.size = w.heap.size + 1 := by simp
  have al := (Below.refl (w.alloc (.cells #[.int .i64 r, .int .i64 c, .slice a n cap] 29)).heap.size (w.alloc (.cells #[.int .i64 r, .int .i64 c, .slice a n cap] 29))).alloc (Nat.le_refl _) (.cells #[.int .i64 0, .int .i64 0, .slice none 0 0] 29)
  have M0 := Lib.hid ((Is3.new w (.int .i64 r) (.int .i64 c) (.slice a n cap) 29).later al)
  have C0 := Cell3.new (w.alloc (.cells #[.int .i64 r, .int .i64 c, .slice a n cap] 29)) (.int .i64 0) (.int .i64 0) (.slice none 0 0) 29
  rw [hs] at C0
  have C0' := Lib.hid C0
  have HR := Lib.hid (fun W => mright_any r c a n cap W)
  rw [h] at HR
  clear h C0 al hs AL1
  go_enter Try.func25, Try.ntmps25
  go_upto_region 1 with fail
  generalize (w.alloc (.cells #[.int .i64 r, .int .i64 c, .slice a n cap] 29)).alloc (.cells #[.int .i64 0, .int .i64 0, .slice none 0 0] 29) = W0 at *
  obtain ⟨m0, m1, m2⟩ := M0.out
  go_wp2_with fail
  refine (HR.out _).mono ?_
  rintro e w1 ⟨rfl, b1⟩
  have B1 := Lib.hid (below_step AL2.out b1)
  have C1 := C0'.out.later b1
  have ST := Lib.hid (stored3 C1 (.int .i64 0) (.int .i64 0) (.slice none 0 0))
  obtain ⟨⟨x, c0⟩, ⟨y, c1⟩, ⟨z, c2⟩, f0, f1, f2⟩ := C1
  clear b1 m0 m1 m2
  go_wp2_with fail
  (try simp only [Exit.inBlock, Exit.then])
  have D0 := ST.out.1
  have D1 := ST.out.2.1
  have D2 := ST.out.2.2.1
  refine bodyPost_ret (v := .agg #[.int .i64 0, .int .i64 0, .slice none 0 0]) (by simp [results, Try.results25, D0, D1, D2, go_sem]) rfl ?_
  exact ⟨_, rfl, ⟨rfl, .inl ⟨rfl, rfl⟩⟩, B1.out.trans (ST.out.2.2.2.mono (by omega))⟩

section
attribute [local go_sem] Oper.semAt_some
set_option maxRecDepth 100000 in
set_option maxHeartbeats 4000000 in
theorem turn_yes (R C : Nat) (v : Value) (zs : List Int) (hr : rightB R C zs.length = true) (hm : zs.length ≤ 1048576) (w : World) (hv0 : IntsW .i64 w.heap.size w v zs) :
    Calls Try.prog 25 #[.agg #[.int .i64 R, .int .i64 C, v]] w (MadeO C R (turnL R C zs) w) := by
  obtain ⟨r1, r2, c1, c2, hlen'⟩ := right_len hr
  have hpos : 0 < zs.length := by rw [hlen']; exact Nat.mul_pos (by omega) (by omega)
  have hv := hv0.at hpos
  clear hv0
  rcases hv.form with ⟨_, e0⟩ | ⟨b, off, cap, rfl, hcap, hb, hcs⟩
  · rw [e0] at hpos; cases hpos
  have hCR : C * R ≤ 1048576 := by rw [Nat.mul_comm, ← hlen']; exact hm
  have hCRp : 0 < C * R := Nat.mul_pos (by omega) (by omega)
  have HR := Lib.hid (fun W => mright_any R C (some ⟨b, off, none⟩) zs.length cap W)
  rw [hr] at HR
  have HBL := Lib.hid (fun W => blank_any C R hCR W)
  have AL1 := (Below.refl w.heap.size w).alloc (Nat.le_refl _) (.cells #[.int .i64 R, .int .i64 C, .slice (some ⟨b, off, none⟩) zs.length cap] 29)
  have AL2 := Lib.hid (below_alloc (o := .cells #[.int .i64 0, .int .i64 0, .slice none 0 0] 29) AL1)
  have hs : (w.alloc (.cells #[.int .i64 R, .int .i64 C, .slice (some ⟨b, off, none⟩) zs.length cap] 29)).heap.size = w.heap.size + 1 := by simp
  have al := (Below.refl (w.alloc (.cells #[.int .i64 R, .int .i64 C, .slice (some ⟨b, off, none⟩) zs.length cap] 29)).heap.size (w.alloc (.cells #[.int .i64 R, .int .i64 C, .slice (some ⟨b, off, none⟩) zs.length cap] 29))).alloc (Nat.le_refl _) (.cells #[.int .i64 0, .int .i64 0, .slice none 0 0] 29)
  have M0 := Lib.hid ((BoxM.new w R C (.slice (some ⟨b, off, none⟩) zs.length cap)).later al)
  have C0 := BoxM.new (w.alloc (.cells #[.int .i64 R, .int .i64 C, .slice (some ⟨b, off, none⟩) zs.length cap] 29)) 0 0 (.slice none 0 0)
  rw [hs] at C0
  have C0' := Lib.hid (show BoxM ((w.alloc (.cells #[.int .i64 R, .int .i64 C, .slice (some ⟨b, off, none⟩) zs.length cap] 29)).alloc (.cells #[.int .i64 0, .int .i64 0, .slice none 0 0] 29)) (w.heap.size + 1) 0 0 (.slice none 0 0) from C0)
  have HL := Lib.hid hlen'
  have HV := Lib.hid hv
  clear hlen' hcs hr hv C0 al hs AL1
  refine (callsIn_wide (n := 8)).1 ?_
  refine callsIn_of_wp_marks Try.func25 rfl trivial ?_ rfl
  simp only [Try.ntmps25, List.size_toArray, List.length_cons, List.length_nil, Nat.reduceAdd, Nat.reduceSub, Array.replicate_succ, Array.replicate_zero, List.push_toArray, List.append_toArray, List.nil_append, List.cons_append]
  gi_upto_region 1 with fail
  generalize (w.alloc (.cells #[.int .i64 R, .int .i64 C, .slice (some ⟨b, off, none⟩) zs.length cap] 29)).alloc (.cells #[.int .i64 0, .int .i64 0, .slice none 0 0] 29) = W0 at *
  have k0 := M0.out.cells.1
  have k1 := M0.out.cells.2.1
  have k2 := M0.out.cells.2.2
  gi_wp2_with fail
  refine ⟨trivial, ?_⟩
  refine (callsIn_wide.2 (HR.out _)).mono ?_
  rintro e w1 ⟨rfl, b1⟩
  have M1 := Lib.hid (M0.out.later b1)
  have C1 := Lib.hid (C0'.out.later b1)
  have B1 := Lib.hid (below_step AL2.out b1)
  clear b1 k0 k1 k2 M0 C0' AL2
  have k0 := M1.out.cells.1
  have k1 := M1.out.cells.2.1
  have k2 := M1.out.cells.2.2
  gi_wp2_with fail
  refine ⟨trivial, ?_⟩
  refine (callsIn_wide.2 (HBL.out _)).mono ?_
  rintro e w2 ⟨t, rfl, ot, b2⟩
  obtain ⟨gt, ct, rfl, g1, g2⟩ := own_some ot hCRp
  have b3 := (Below.refl w2.heap.size w2).alloc (Nat.le_refl _) (.cells #[.int .i64 C, .int .i64 R, .slice (some ⟨gt, 0, none⟩) (C * R) ct] 29)
  have T3 := Lib.hid (BoxM.new w2 C R (.slice (some ⟨gt, 0, none⟩) (C * R) ct))
  have M3 := Lib.hid ((M1.out.later b2).later b3)
  have C3 := Lib.hid ((C1.out.later b2).later b3)
  have hN1 := C1.out.lt
  have hb2 := b2.size
  have B3 := Lib.hid (below_step (below_step B1.out b2) b3)
  have OT3 := Lib.hid (own_below (owns_mono B1.out.size ot) b3)
  have hs3 : (w2.alloc (.cells #[.int .i64 C, .int .i64 R, .slice (some ⟨gt, 0, none⟩) (C * R) ct] 29)).heap.size = w2.heap.size + 1 := by simp
  clear b2 b3 ot k0 k1 k2 M1 C1
  gi_upto_region 4 with fail
  generalize w2.alloc (.cells #[.int .i64 C, .int .i64 R, .slice (some ⟨gt, 0, none⟩) (C * R) ct] 29) = W3 at *
  generalize w2.heap.size = T at *
  have k0 := M3.out.cells.1
  have k1 := M3.out.cells.2.1
  have k2 := M3.out.cells.2.2
  gi_wp2_with fail
  refine ⟨trivial, ?_⟩
  refine (callsIn_wide.2 (rows_any R C (some ⟨b, off, none⟩) zs.length cap _)).mono ?_
  rintro e W4 ⟨rfl, rfl⟩
  gi_wp2_with fail
  have m4 := BoxM.new W3 R C (.slice (some ⟨b, off, none⟩) zs.length cap)
  rw [hs3] at m4
  have b4 := (Below.refl W3.heap.size W3).alloc (Nat.le_refl _) (.cells #[.int .i64 R, .int .i64 C, .slice (some ⟨b, off, none⟩) zs.length cap] 29)
  have T4 := T3.out.later b4
  have C4 := C3.out.later b4
  have B4 := below_step B3.out b4
  have OT4 := own_below OT3.out b4
  have hs4 : (W3.alloc (.cells #[.int .i64 R, .int .i64 C, .slice (some ⟨b, off, none⟩) zs.length cap] 29)).heap.size = T + 2 := by simp [hs3]
  generalize W3.alloc (.cells #[.int .i64 R, .int .i64 C, .slice (some ⟨b, off, none⟩) zs.length cap] 29) = W4 at m4 T4 C4 B4 OT4 hs4 ⊢
  clear b4 k0 k1 k2 T3 M3 C3 B3 OT3 hs3 HR HBL
  have hct : C * R ≤ ct := by
    rcases OT4.2 with ⟨e0, _⟩ | ⟨g', cap'', cur, e0, _, _, hle, _⟩
    · cases e0
    · cases e0; exact hle
  refine wpIn_rangeFunc_ownH rfl (by omega) (gf := 41) (lb := #[.pointer (some ⟨T + 1, 0, none⟩)]) rfl trivial (enters_of Try.func41 (by kernel_rfl) rfl)
    (rows_stops 7 (by omega) (T + 1) w.heap.size R C zs.length cap b off c1 c2 r2 HL.out hm hcap W4 (by omega) m4) KeepM.trans (keepM_b (by omega) (by omega)) (Below.refl _ _) (fun _ => rfl)
    (fun pre W => (BoxM W T C R (.slice (some ⟨gt, 0, none⟩) (C * R) ct) ∧ BoxM W (w.heap.size + 1) 0 0 (.slice none 0 0)) ∧ W.ownsRow w.heap.size 2 1 (.slice (some ⟨gt, 0, none⟩) (C * R) ct) (C * R) ((turnP C zs pre).map (Value.int .i64)) ∧ Below w.heap.size w W)
    (fun _ _ _ => False)
    (OwnFrom.and (OwnFrom.and (Own.from (boxM_own T C R (.slice (some ⟨gt, 0, none⟩) (C * R) ct)) _) (Own.from (boxM_own (w.heap.size + 1) 0 0 (.slice none 0 0)) _)) (OwnFrom.and (Own.from (row_own w.heap.size 2 1 (.slice (some ⟨gt, 0, none⟩) (C * R) ct) (fun _ => C * R) (fun pre => (turnP (R := R) C zs pre).map (Value.int .i64))) _) (ownFrom_below (Nat.le_refl _) (by omega))))
    (fun _ _ _ _ _ hs _ _ => hs)
    ⟨⟨T4, C4⟩, by rw [turnP_nil, List.map_replicate]; exact OT4, B4⟩
    (fun x a'' W => a'' = { tmps := #[Value.agg #[Value.int IntKind.i64 ↑R, Value.int IntKind.i64 ↑C, Value.slice (some { block := b, off := off }) zs.length cap],
          Value.pointer (some { block := w.heap.size, off := 0 }), Value.pointer (some { block := w.heap.size + 1, off := 0 }), Value.pointer (some { block := T, off := 0 }),
          .int .i64 x.val, .slice (some ⟨b, off + x.val * C, none⟩) C C, undef, undef,
          Value.agg #[Value.int IntKind.i64 ↑R, Value.int IntKind.i64 ↑C, Value.slice (some { block := b, off := off }) zs.length cap],
          Value.bool true, Value.bool false, undef, Value.pointer (some { block := w.heap.size, off := 1 }),
          Value.int IntKind.i64 ↑C, Value.pointer (some { block := w.heap.size, off := 0 }), Value.int IntKind.i64 ↑R,
          Value.agg #[Value.int IntKind.i64 ↑C, Value.int IntKind.i64 ↑R, Value.slice (some { block := gt, off := 0 }) (C * R) ct],
          Value.agg #[Value.int IntKind.i64 ↑R, Value.int IntKind.i64 ↑C, Value.slice (some { block := b, off := off }) zs.length cap],
          Value.func (Fn.func 41) #[] #[Value.pointer (some { block := T + 1, off := 0 })], .int .i64 x.val, .slice (some ⟨b, off + x.val * C, none⟩) C C, undef, undef,
          undef, undef, undef, undef, undef, undef, undef, undef, undef, undef, undef, undef, undef], defers := [] })
    (fun x a'' _ X Y row hs hg hr => hs)
    ?assign ?body ?done ?stop
  case assign =>
    rintro l pre x W K hI hK
    unfold encM
    gi_wp2
    exact hK _ _ (KeepsFrom.refl _ _) ⟨Below.refl _ _, fun h => h⟩ hI rfl
  case body =>
    rintro l pre ⟨r, hrR⟩ a'' W hl ⟨rl, hrl⟩ ⟨⟨hT, hZ⟩, hrow, hB⟩ rfl hlt
    dsimp only
    have HB := Lib.hid hB
    have HROW := Lib.hid hrow
    have HT := Lib.hid hT
    have HZ := Lib.hid hZ
    have HRL := Lib.hid (rowL_length HL.out hrR)
    have ri0 : (0 : Int) ≤ (r : Int) := by omega
    have ri1 : (r : Int) < (R : Int) := by omega
    clear hT hZ hrow hB hlt
    gi_wp2_with fail
    gi_loopw [23] (fun i wr => ∃ k : Nat, k ≤ C ∧ i = .int .i64 k ∧ (BoxM wr T C R (.slice (some ⟨gt, 0, none⟩) (C * R) ct) ∧ BoxM wr (w.heap.size + 1) 0 0 (.slice none 0 0)) ∧ wr.ownsRow w.heap.size 2 1 (.slice (some ⟨gt, 0, none⟩) (C * R) ct) (C * R) ((turnQ C zs pre r k).map (Value.int .i64)) ∧ W.grownBy wr (some gt))
      (fun i _ => C - (intOf i).toNat)
    case atStart => exact ⟨0, Nat.zero_le _, rfl, ⟨HT.out, HZ.out⟩, by rw [turnQ_zero]; exact HROW.out, grown_below (Below.refl _ _) _⟩
    case round =>
      obtain ⟨k, hk, rfl, ⟨hT, hZ⟩, hrow, hG⟩ := hrel
      have hBr := (Below.refl w.heap.size W).grown hG HB.out.size (fun k e => by cases e; omega)
      by_cases hlt : k < C
      · have BW := HB.out.trans hBr
        have cx := ints_cells (rowAt (IntsAt.below BW HV.out) HL.out hrR) k (by rw [HRL.out]; exact hlt)
        rw [rowL_get HL.out hrR hlt] at cx
        have hbl := World.block_lt_of_cell? _ _ cx
        have hrw := row_any C R k (C * R) ct gt 0 r1 r2 c2 rfl hCR hct hlt
        rw [Nat.zero_add] at hrw
        have HRW := Lib.hid hrw
        have HSET := Lib.hid (turnQ_set C zs pre r k hrR hlt)
        have hidx := idx_lt hlt hrR
        have HTr := Lib.hid hT
        have HZr := Lib.hid hZ
        have HROWr := Lib.hid hrow
        have HGr := Lib.hid hG
        generalize zs[r * C + k]?.getD 0 = x at *
        have t0 := hT.cells.1
        have t1 := hT.cells.2.1
        have t2 := hT.cells.2.2
        have kc : (k : Int) < (C : Int) := by omega
        clear hrw hT hZ hrow hG BW hBr
        gi_wp2_with fail
        refine ⟨trivial, ?_⟩
        refine (CallsIn.inRound l (callsIn_wide.2 (HRW.out _))).mono ?_
        rintro e w5 ⟨rfl, b5⟩
        have T5 := Lib.hid (HTr.out.later b5)
        have Z5 := Lib.hid (HZr.out.later b5)
        have R5 := Lib.hid (own_below HROWr.out b5)
        have G5 := Lib.hid (grown_trans HGr.out (grown_below b5 _))
        have rc := R5.out.cellAt (k * R + r) (by rw [Nat.mul_one]; exact hidx)
        have rf := R5.out.frozenAt (k * R + r)
        rw [List.getElem?_map, List.getElem?_eq_getElem (by rw [turnQ_length]; exact hidx), Option.map_some] at rc
        have ST := Lib.hid (R5.out.stored (k * R + r) (.int .i64 x))
        clear b5 t0 t1 t2
        gi_wp2_with fail
        have S2 := ST.out.2
        have S1 := ST.out.1
        rw [List.set_map_eq, HSET.out] at S1
        go_roundw
        case rel => exact ⟨k + 1, by omega, by go_num, ⟨T5.out.grown S2 (fun e => absurd (Option.some.inj e) (by omega)), Z5.out.grown S2 (fun e => absurd (Option.some.inj e) (by omega))⟩, S1, grown_trans G5.out S2⟩
        case measure => simp [intOf]; omega
      · have hk' : k = C := by omega
        subst hk'
        have hcur : ∀ (j : Nat) (o : Obj), some gt = some j → W.heap[j]? = some o → o.isCells = true := by
          rintro j o e ho
          cases e
          rcases HROW.out.2 with ⟨e0, _⟩ | ⟨g', cap'', cur, e0, _, hgb, _⟩
          · cases e0
          · cases e0
            rw [hgb] at ho
            cases ho
            rfl
        have HTr := Lib.hid hT
        have HZr := Lib.hid hZ
        rw [turnQ_all k zs pre ⟨r, hrR⟩] at hrow
        have HROWr := Lib.hid hrow
        have HGr := Lib.hid hG
        have HBr := Lib.hid hBr
        have HCUR := Lib.hid hcur
        clear hT hZ hrow hG hBr hcur
        gi_wp2_with fail
        exact ⟨(KeepsOthers.of_grownBy HGr.out HCUR.out).from _, ⟨HBr.out, fun hb => hb.grown HGr.out (fun e => absurd (Option.some.inj e) (by omega))⟩, ⟨HTr.out, HZr.out⟩, HROWr.out, HB.out.trans HBr.out⟩
  case done =>
    rintro D ys W hD rfl ⟨⟨hT, hZ⟩, hrow, hB⟩ hK
    have ST := Lib.hid (stored3 hZ.cell3 (.int .i64 C) (.int .i64 R) (.slice (some ⟨gt, 0, none⟩) (C * R) ct))
    obtain ⟨⟨x, c0⟩, ⟨y, c1⟩, ⟨z, c2⟩, f0, f1, f2⟩ := hZ.cell3
    obtain ⟨t0, t1, t2⟩ := hT.cells
    have HROW := Lib.hid hrow
    have HB := Lib.hid hB
    have hZl := hZ.lt
    clear hT hZ hrow hB
    gi_wp2
    have hK1 := (KeepsOthers.setCell W ⟨w.heap.size + 1, 0, none⟩ (.int .i64 C)).same D _ hK rfl
    have hK2 := (KeepsOthers.setCell _ ⟨w.heap.size + 1, 1, none⟩ (.int .i64 R)).same D _ hK1 rfl
    have hK3 := (KeepsOthers.setCell _ ⟨w.heap.size + 1, 2, none⟩ (.slice (some ⟨gt, 0, none⟩) (C * R) ct)).same D _ hK2 rfl
    refine ⟨by simp, .inl ⟨_, _, rfl, run_takeDeferred hK3, ?_⟩⟩
    have D0 := ST.out.1
    have D1 := ST.out.2.1
    have D2 := ST.out.2.2.1
    have WZ := ownsRow_setCell_other (ownsRow_setCell_other (ownsRow_setCell_other HROW.out (a := ⟨w.heap.size + 1, 0, none⟩) (fun e => absurd (Option.some.inj e) (show gt ≠ w.heap.size + 1 by omega)) (.int .i64 C)) (a := ⟨w.heap.size + 1, 1, none⟩) (fun e => absurd (Option.some.inj e) (show gt ≠ w.heap.size + 1 by omega)) (.int .i64 R)) (a := ⟨w.heap.size + 1, 2, none⟩) (fun e => absurd (Option.some.inj e) (show gt ≠ w.heap.size + 1 by omega)) (.slice (some ⟨gt, 0, none⟩) (C * R) ct)
    have LZ := HB.out.trans (ST.out.2.2.2.mono (by omega))
    have hlz := World.block_lt_of_cell? _ _ D0
    generalize ((W.setCell ⟨w.heap.size + 1, 0, none⟩ (.int .i64 C)).setCell ⟨w.heap.size + 1, 1, none⟩ (.int .i64 R)).setCell ⟨w.heap.size + 1, 2, none⟩ (.slice (some ⟨gt, 0, none⟩) (C * R) ct) = wz at *
    have GP := grownBy_putObj' wz D (Obj.deferred none)
    have E0 := (grown_cell GP hlz (show w.heap.size + 1 ≠ D by omega)).trans D0
    have E1 := (grown_cell GP hlz (show w.heap.size + 1 ≠ D by omega)).trans D1
    have E2 := (grown_cell GP hlz (show w.heap.size + 1 ≠ D by omega)).trans D2
    refine ⟨.agg #[.int .i64 C, .int .i64 R, .slice (some ⟨gt, 0, none⟩) (C * R) ct], by simp [results, Try.results25, E0, E1, E2, go_sem], ⟨_, rfl, ?_, LZ.trans (belowK_b (w := W4) (by omega) wz D _ _ (by omega) hK3 rfl rfl)⟩⟩
    have := ownsRow_putObj WZ (Obj.deferred none) hK3 rfl
    rw [turnP_all] at this
    rw [turnL_length]
    exact this
  case stop =>
    rintro D c pre W _ _ h _
    exact h.elim
end
end Go.Proofs.Ytinflmjombcolaa
