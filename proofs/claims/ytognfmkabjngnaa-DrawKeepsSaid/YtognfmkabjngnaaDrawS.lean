/- What lies about the range over All: boxes, the reference's stream, the stream. -/
import Derived.Test.YtognfmkabjngnaaDrawR
import Derived.Test.YtognfmkabjngnaaAgg
namespace Go.Proofs.Ytognfmkabjngnaa
open Go.RowKit
set_option linter.unusedVariables false
/-- a block of two cells -/
def Two (W : World) (B : Nat) (t : TypeId) (x y : Value) : Prop := W.heap[B]? = some (.cells #[x, y] t (0, 0))
theorem Two.lt {W : World} {B : Nat} {t : TypeId} {x y : Value} (h : Two W B t x y) : B < W.heap.size := (Array.getElem?_eq_some_iff.1 h).1
theorem Two.cells {W : World} {B : Nat} {t : TypeId} {x y : Value} (h : Two W B t x y) : W.cell? ⟨B, 0, none⟩ = some x ∧ W.cell? ⟨B, 1, none⟩ = some y ∧ W.frozen? ⟨B, 0, none⟩ = false ∧ W.frozen? ⟨B, 1, none⟩ = false :=
  ⟨by simp [World.cell?, show W.heap[B]? = _ from h], by simp [World.cell?, show W.heap[B]? = _ from h], by simp [World.frozen?, show W.heap[B]? = _ from h], by simp [World.frozen?, show W.heap[B]? = _ from h]⟩
theorem Two.new (W : World) (t : TypeId) (x y : Value) : Two (W.alloc (.cells #[x, y] t)) W.heap.size t x y := World.alloc_heap_new W _
theorem Two.kept {W W' : World} {row : Option Nat} {B : Nat} {t : TypeId} {x y : Value} (h : Two W B t x y) (hg : W.grownBy W' row) (hne : some B ≠ row) : Two W' B t x y := (hg.block B h.lt hne).trans h
theorem Two.set {W : World} {B : Nat} {t : TypeId} {x y : Value} (x' y' : Value) (h : Two W B t x y) : Two ((W.setCell ⟨B, 0, none⟩ x').setCell ⟨B, 1, none⟩ y') B t x' y' := by
  obtain ⟨hlt, hk⟩ := Array.getElem?_eq_some_iff.1 h
  have h1 : (W.setCell ⟨B, 0, none⟩ x').heap[B]? = some (.cells #[x', y] t (0, 0)) := by
    show (W.heap.modify B _)[B]? = _
    rw [Array.getElem?_eq_getElem (by rw [Array.size_modify]; exact hlt), Array.getElem_modify_self, hk]
    rfl
  obtain ⟨hlt2, hk2⟩ := Array.getElem?_eq_some_iff.1 h1
  show ((W.setCell ⟨B, 0, none⟩ x').heap.modify B _)[B]? = _
  rw [Array.getElem?_eq_getElem (by rw [Array.size_modify]; exact hlt2), Array.getElem_modify_self, hk2]
  rfl
/-- what stays the same, but for the place, through both loops -/
def AllsW (B BL BS BR Bw b : Nat) (v : Value) (stop : Int) (zs : List Int) (k : Nat) (W : World) : Prop :=
  B ≤ W.heap.size ∧ Boxed W BL 22 v ∧ Boxed W BS 5 (.int .u8 stop) ∧ Boxed W BR 4 (.bool false) ∧ Two W Bw 27 v (.int .i64 k) ∧ StreamAt b W zs k
theorem AllsW.below {B BL BS BR Bw b : Nat} {v : Value} {stop : Int} {zs : List Int} {k : Nat} {W W' : World} (h : AllsW B BL BS BR Bw b v stop zs k W) (hb : Below B W W') (h1 : BL < B) (h2 : BS < B) (h3 : BR < B) (h4 : Bw < B) (h5 : b < B) : AllsW B BL BS BR Bw b v stop zs k W' :=
  ⟨Nat.le_trans h.1 hb.size, (hb.block _ h1).trans h.2.1, (hb.block _ h2).trans h.2.2.1, (hb.block _ h3).trans h.2.2.2.1, (hb.block _ h4).trans h.2.2.2.2.1, h.2.2.2.2.2.below hb h5⟩
/-- one draw has been used, and the reference's stream is stored anew -/
theorem AllsW.step {B BL BS BR Bw b : Nat} {v : Value} {stop : Int} {zs : List Int} {k k' : Nat} {W W1 W2 : World} (h : AllsW B BL BS BR Bw b v stop zs k W) (hs : StreamAt b W1 zs k') (hg : W.grownBy W1 (some b)) (hb : Below W1.heap.size W1 W2)
    (n1 : BL ≠ b) (n2 : BS ≠ b) (n3 : BR ≠ b) (n4 : b < Bw) (m1 : BL < Bw) (m2 : BS < Bw) (m3 : BR < Bw) : AllsW B BL BS BR Bw b v stop zs k' ((W2.setCell ⟨Bw, 0, none⟩ v).setCell ⟨Bw, 1, none⟩ (.int .i64 k')) := by
  obtain ⟨hB, hL, hS, hR, hw, hst⟩ := h
  have L1 := hL.kept hg (fun e => n1 (Option.some.inj e))
  have S1 := hS.kept hg (fun e => n2 (Option.some.inj e))
  have R1 := hR.kept hg (fun e => n3 (Option.some.inj e))
  have w1 := hw.kept hg (fun e => absurd (Option.some.inj e) (by omega))
  have L2 : Boxed W2 BL _ _ := (hb.block _ L1.lt).trans L1
  have S2 : Boxed W2 BS _ _ := (hb.block _ S1.lt).trans S1
  have R2 : Boxed W2 BR _ _ := (hb.block _ R1.lt).trans R1
  have w2 : Two W2 Bw _ _ _ := (hb.block _ w1.lt).trans w1
  have b2 : Below Bw W2 ((W2.setCell ⟨Bw, 0, none⟩ v).setCell ⟨Bw, 1, none⟩ (.int .i64 k')) := below_set (below_set (Below.refl _ _) (Nat.le_refl _)) (Nat.le_refl _)
  exact ⟨Nat.le_trans hB (Nat.le_trans hg.size (Nat.le_trans hb.size b2.size)), (b2.block _ m1).trans L2, (b2.block _ m2).trans S2, (b2.block _ m3).trans R2, w2.set _ _, (hs.later hb).below b2 n4⟩
section
attribute [local go_sem] Oper.semAt_some
set_option maxRecDepth 100000 in
set_option maxHeartbeats 2000000 in
theorem walk_alls (v : Value) (zs : List Int) (used stop : Int) (hu : 0 ≤ used ∧ used ≤ 255) (hst : 0 ≤ stop ∧ stop ≤ 255) (hz : ∀ z ∈ zs, 0 ≤ z ∧ z < 18446744073709551616) (w : World) (hm : zs.length * 8 ≤ 140737488351232) (hv : IntsAt .u64 w.heap.size w v zs) :
    Calls Try.prog 3 #[v, .int .u8 used, .int .u8 stop] w fun e w' => e = .returned (.bool true) ∧ Below w.heap.size w w' := by
  obtain ⟨a, cap, rfl⟩ := ints_value hv
  refine (callsIn_wide (n := 8)).1 ?_
  refine callsIn_of_wp_marks Try.func3 rfl trivial ?_ rfl
  simp only [Try.ntmps3, List.size_toArray, List.length_cons, List.length_nil, Nat.reduceAdd, Nat.reduceSub, Array.replicate_succ, Array.replicate_zero, List.push_toArray, List.append_toArray, List.nil_append, List.cons_append]
  gi_wp2_with fail
  refine ⟨trivial, ?_⟩
  have bl := ((Boxed.new w 22 (.slice a zs.length cap)).alloc (.cells #[.int .u8 stop] 5)).alloc (.cells #[.bool false] 4)
  have bs := (Boxed.new (w.alloc (.cells #[.slice a zs.length cap] 22)) 5 (.int .u8 stop)).alloc (.cells #[.bool false] 4)
  have br := Boxed.new ((w.alloc (.cells #[.slice a zs.length cap] 22)).alloc (.cells #[.int .u8 stop] 5)) 4 (.bool false)
  have b0 : Below w.heap.size w (((w.alloc (.cells #[.slice a zs.length cap] 22)).alloc (.cells #[.int .u8 stop] 5)).alloc (.cells #[.bool false] 4)) := ((((Below.refl _ w).alloc (Nat.le_refl _) _).alloc (by simp) _).alloc (by simp; omega) _)
  have hsz : (((w.alloc (.cells #[.slice a zs.length cap] 22)).alloc (.cells #[.int .u8 stop] 5)).alloc (.cells #[.bool false] 4)).heap.size = w.heap.size + 3 := by simp
  simp only [World.size_alloc] at bl bs br
  generalize ((w.alloc (.cells #[.slice a zs.length cap] 22)).alloc (.cells #[.int .u8 stop] 5)).alloc (.cells #[.bool false] 4) = W0 at bl bs br b0 hsz ⊢
  have HV := Lib.hid hv
  have HZ := Lib.hid hz
  clear hv hz
  refine (callsIn_wide.2 (new_any _ zs hm _ ((HV.out.below b0).grow b0.size))).mono ?_
  rintro e w1 ⟨b, rfl, hb, s1, b1⟩
  have B1 := Lib.hid (b0.trans (b1.mono b0.size))
  have bl1 : Boxed w1 _ _ _ := (b1.block _ bl.lt).trans bl
  have bs1 : Boxed w1 _ _ _ := (b1.block _ bs.lt).trans bs
  have br1 : Boxed w1 _ _ _ := (b1.block _ br.lt).trans br
  have S1 := Lib.hid s1
  have hbs := s1.1
  clear s1 b1 bl bs br b0
  have c1 := bl1.cell
  have c2 := bs1.cell
  have c3 := br1.cell
  have c3f := br1.frozen
  have l1 := bl1.lt
  have l2 := bs1.lt
  have l3 := br1.lt
  by_cases h1 : 300 < zs.length
  · have e1 : decide ((300 : Int) < zs.length) = true := by simp; omega
    have BR1 := Lib.hid br1
    clear bl1 bs1 br1
    gi_wp2_with fail
    refine ⟨trivial, ?_⟩
    refine (callsIn_wide.2 (alive_any _)).mono ?_
    rintro e w5 ⟨rfl, b5⟩
    have br5 : Boxed w5 _ _ _ := (b5.block _ l3).trans BR1.out
    have q1 := br5.cell
    have q2 := br5.frozen
    have hB5 := B1.out.trans (b5.mono B1.out.size)
    clear b5
    gi_wp2_with fail
    have l5 := br5.lt
    have E0 : (w5.setCell ⟨w.heap.size + 1 + 1, 0, none⟩ (.bool true)).cell? ⟨w.heap.size + 1 + 1, 0, none⟩ = some (.bool true) := World.cell?_setCell_same _ _ _ q1
    exact ⟨.bool true, by simp [results, Try.results3, E0, go_sem], rfl, below_set hB5 (by omega)⟩
  · have e1 : decide ((300 : Int) < zs.length) = false := by simp; omega
    have HL := Lib.hid bl1
    have HS := Lib.hid bs1
    have HR := Lib.hid br1
    clear bl1 bs1 br1
    gi_wp2_with fail
    have hsw : (w1.alloc (.cells #[.slice a zs.length cap, .int .i64 ((0 : Nat) : Int)] 27)).heap.size = w1.heap.size + 1 := by simp
    have bA := (Below.refl w1.heap.size w1).alloc (Nat.le_refl _) (.cells #[.slice a zs.length cap, .int .i64 ((0 : Nat) : Int)] 27)
    have HA := Lib.hid (show AllsW (w1.heap.size + 1) w.heap.size (w.heap.size + 1) (w.heap.size + 1 + 1) w1.heap.size b (.slice a zs.length cap) stop zs 0 (w1.alloc (.cells #[.slice a zs.length cap, .int .i64 ((0 : Nat) : Int)] 27)) from
      ⟨Nat.le_of_eq hsw.symm, HL.out.alloc _, HS.out.alloc _, HR.out.alloc _, Two.new _ _ _ _, S1.out.later bA⟩)
    have HB := Lib.hid (B1.out.trans (bA.mono B1.out.size))
    clear bA S1 HL HS HR hsw c1 c2 c3 c3f
    have hb0 : w.heap.size + 3 ≤ b := by omega
    generalize hBw : w1.heap.size = Bw at *
    gi_loopw [30] (fun i wr => ∃ j k : Nat, (j : Int) ≤ used ∧ i = .int .i64 j ∧ AllsW (Bw + 1) w.heap.size (w.heap.size + 1) (w.heap.size + 1 + 1) Bw b (.slice a zs.length cap) stop zs k wr ∧ Below w.heap.size w wr) (fun i _ => used.toNat - (intOf i).toNat)
    case atStart => exact ⟨0, 0, by omega, rfl, HA.out, HB.out⟩
    case round =>
      obtain ⟨j, k, hj, rfl, hA, hB⟩ := hrel
      have HA := Lib.hid hA
      have HB := Lib.hid hB
      obtain ⟨hBw2, aL, aS, aR, aw, ast⟩ := hA
      by_cases hlt : (j : Int) < used
      · have hE : decide ((j : Int) < used) = true := by simpa using hlt
        have HST := Lib.hid ast
        clear aL aS aR hB ast
        gi_wp2_with fail
        refine ⟨trivial, ?_⟩
        refine (callsIn_wide.2 (next_any b zs HZ.out k (by omega) 9 (by omega) _ HST.out)).mono ?_
        rintro e w5 ⟨rfl, s5, g5⟩
        have aw5 := aw.kept g5 (fun e => absurd (Option.some.inj e) (by omega))
        obtain ⟨x0, x1, y0, y1⟩ := aw5.cells
        have hB5 := HB.out.trans ((Grown.below g5 HST.out.1).mono (by omega))
        have hN := refNext_any (.slice a zs.length cap) zs HZ.out k (by omega) 9 (by omega) w5 ((HV.out.below hB5).grow hB5.size)
        have S5 := Lib.hid s5
        have G5 := Lib.hid g5
        have AW5 := Lib.hid aw5
        have HB5 := Lib.hid hB5
        clear s5 g5 hB5 aw aw5
        generalize nextR zs k 9 = R at *
        obtain ⟨x, okb, k2⟩ := R
        simp only at hN S5
        have HN := Lib.hid hN
        clear hN
        gi_wp2_with fail
        refine ⟨trivial, ?_⟩
        refine (callsIn_wide.2 HN.out).mono ?_
        rintro e w6 ⟨rfl, b6⟩
        unfold RefSt
        have aw6 : Two w6 _ _ _ _ := (b6.block _ AW5.out.lt).trans AW5.out
        obtain ⟨x0, x1, y0, y1⟩ := aw6.cells
        have B6 := Lib.hid b6
        clear b6 aw6
        gi_wp2_with fail
        have NW := HA.out.step S5.out G5.out B6.out (by omega) (by omega) (by omega) (by omega) (by omega) (by omega) (by omega)
        have NB := (HB5.out.trans (B6.out.mono HB5.out.size)).trans ((below_set (below_set (Below.refl Bw w6) (Nat.le_refl _) (x := .slice a zs.length cap) (o := 0)) (Nat.le_refl _) (x := .int .i64 k2) (o := 1)).mono (by omega))
        go_roundw
        case rel => exact ⟨j + 1, k2, by omega, by go_num, NW, NB⟩
        case measure => simp [intOf]; omega
      · have hE : decide ((j : Int) < used) = false := by simpa using hlt
        clear aL aS aR hB ast aw hBw2
        have hkl := HA.out.2.2.2.2.2.2.1
        obtain ⟨N, hNe⟩ : ∃ N, N = zs.length - k := ⟨_, rfl⟩
        have hNi : (zs.length : Int) - (k : Int) = (N : Int) := by omega
        have hws : IntKind.i64.wrap (stop + 1) = stop + 1 := IntWalk.i64_in _ (by omega)
        gi_wp2_with fail
        have hn0 : Boxed (wr.alloc (.cells #[.int .i64 ((0 : Nat) : Int)] 3)) wr.heap.size 3 (.int .i64 ((0 : Nat) : Int)) := Boxed.new wr _ _
        have bA := (Below.refl wr.heap.size wr).alloc (Nat.le_refl _) (.cells #[.int .i64 ((0 : Nat) : Int)] 3)
        have hBn1 := HA.out.1
        have HA2 := Lib.hid (HA.out.below (bA.mono hBn1) (by omega) (by omega) (by omega) (by omega) (by omega))
        have HB2 := Lib.hid (HB.out.trans (bA.mono HB.out.size))
        have hsn : (wr.alloc (.cells #[.int .i64 ((0 : Nat) : Int)] 3)).heap.size = wr.heap.size + 1 := by simp
        clear bA
        generalize hBn : wr.heap.size = Bn at *
        generalize (wr.alloc (.cells #[.int .i64 ((0 : Nat) : Int)] 3)) = Wn at *
        refine' wpIn_range_bound rfl (by omega) (gf := 9) (rb := #[.pointer (some ⟨b, 0, none⟩)]) (lb := #[]) rfl trivial (enters_of Try.func9 (by kernel_rfl) rfl)
          (all_yields 7 (by omega) b zs k (by omega) Wn) (fun _ => rfl)
          (fun j W => (AllsW (Bw + 1) w.heap.size (w.heap.size + 1) (w.heap.size + 1 + 1) Bw b (.slice a zs.length cap) stop zs k W ∧ Boxed W Bn 3 (.int .i64 (j : Nat)) ∧ (j : Int) ≤ stop) ∧ Below w.heap.size w W)
          (fun c j W => c = .exit 2 ∧ (AllsW (Bw + 1) w.heap.size (w.heap.size + 1) (w.heap.size + 1 + 1) Bw b (.slice a zs.length cap) stop zs k W ∧ Boxed W Bn 3 (.int .i64 (j : Nat)) ∧ (j : Int) = stop + 1 ∧ j ≤ N) ∧ Below w.heap.size w W)
          ?hI ?hIx (fun j W h => h.1.1.2.2.2.2.2) ⟨⟨HA2.out, hn0, by omega⟩, HB2.out⟩ _ ?assign ?body ?done ?stop
        case hI =>
          rintro j X Y row ⟨⟨hA, hn, hj2⟩, hB⟩ hg hr
          have hb := (Below.refl (Bn + 1) X).grown hg hn.lt (fun r e => by have := (hr r e).1; omega)
          exact ⟨⟨hA.below (hb.mono (by omega)) (by omega) (by omega) (by omega) (by omega) (by omega), (hb.block _ (by omega)).trans hn, hj2⟩, hB.trans (hb.mono (by omega))⟩
        case hIx =>
          rintro c j X Y row ⟨hc, ⟨hA, hn, hj2⟩, hB⟩ hg hr
          have hb := (Below.refl (Bn + 1) X).grown hg hn.lt (fun r e => by have := (hr r e).1; omega)
          exact ⟨hc, ⟨hA.below (hb.mono (by omega)) (by omega) (by omega) (by omega) (by omega) (by omega), (hb.block _ (by omega)).trans hn, hj2⟩, hB.trans (hb.mono (by omega))⟩
        case assign =>
          intro l j W K hK
          unfold encA
          gi_wp2
          exact hK
        case body =>
          rintro l j W hjN ⟨⟨hA, hn, hj2⟩, hB⟩
          rcases HV.out.form with ⟨_, h0⟩ | ⟨g, off, cap', e0, hcap, hg, hcs⟩
          · rw [h0] at hjN; simp at hjN
          cases e0
          obtain ⟨m, hm'⟩ : ∃ m, m = k + j := ⟨_, rfl⟩
          rw [← hm']
          have hml : m < zs.length := by omega
          have cz := (hB.cell (p := ⟨g, off + m, none⟩) hg).trans (hcs m hml)
          clear hcs
          generalize zs[m]?.getD 0 = z at cz ⊢
          have HAr := Lib.hid hA
          have HBr := Lib.hid hB
          have HNr := Lib.hid hn
          obtain ⟨hsB, aL, aS, aR, aw, ast⟩ := hA
          have c1 := aL.cell
          have c2 := aS.cell
          obtain ⟨c3, c4, _, _⟩ := aw.cells
          have c5 := hn.cell
          have c6 := hn.frozen
          have c7 := aR.cell
          have l5 := hn.lt
          have i0 : (0 : Int) ≤ (m : Int) := by omega
          have i1 : (m : Int) < (zs.length : Int) := by omega
          have hge : decide ((N : Int) ≤ j) = false := by simp; omega
          have hwa : (k : Int) + (j : Int) = (m : Int) := by omega
          have hwj : IntKind.i64.wrap ((j : Int) + 1) = ((j + 1 : Nat) : Int) := (IntWalk.i64_in _ (by omega)).trans (by omega)
          have hKF := KeepsOthers.setCell W ⟨Bn, 0, none⟩ (.int .i64 ((j + 1 : Nat) : Int))
          have bS : Below Bn W (W.setCell ⟨Bn, 0, none⟩ (.int .i64 ((j + 1 : Nat) : Int))) := below_set (Below.refl _ _) (Nat.le_refl _)
          have hA2 := Lib.hid (HAr.out.below (bS.mono (by omega)) (by omega) (by omega) (by omega) (by omega) (by omega))
          have hn2 := Lib.hid (hn.set (.int .i64 ((j + 1 : Nat) : Int)))
          have hB2 := Lib.hid (HBr.out.trans (bS.mono (by omega)))
          have HM := Lib.hid hm'
          have HNE := Lib.hid hNe
          clear hB hn aL aS aR aw ast bS hm' hNe
          by_cases hsp : (j : Int) + 1 ≤ stop
          · have hgt : decide (stop < ((j + 1 : Nat) : Int)) = false := by simp; omega
            generalize hj1 : j + 1 = j1 at *
            gi_wp2_with fail
            subst hj1
            exact ⟨hKF.from _, ⟨hA2.out, hn2.out, by omega⟩, hB2.out⟩
          · have hgt : decide (stop < ((j + 1 : Nat) : Int)) = true := by simp; omega
            generalize hj1 : j + 1 = j1 at *
            gi_wp2_with fail
            subst hj1
            exact ⟨hKF.from _, rfl, ⟨hA2.out, hn2.out, by omega, by omega⟩, hB2.out⟩
        case done =>
          rintro D W hD ⟨⟨hA, hn, hj2⟩, hB⟩ hK
          rw [← hNe] at hn hj2
          have hmn : min (N : Int) (stop + 1) = (N : Int) := by omega
          have HAr := Lib.hid hA
          have HBr := Lib.hid hB
          have HNr := Lib.hid hn
          have HNE := Lib.hid hNe
          clear hA hB hn hNe
          gi_wp2_with fail
          refine ⟨trivial, ?_⟩
          refine (callsIn_wide.2 (alive_any _)).mono ?_
          rintro e W5 ⟨rfl, b5⟩
          have A5 := Lib.hid (HAr.out.below (b5.mono HAr.out.1) (by omega) (by omega) (by omega) (by omega) (by omega))
          have N5 : Boxed W5 _ _ _ := (b5.block _ HNr.out.lt).trans HNr.out
          have K5 : W5.heap[D]? = some (.deferred (some [])) := (b5.block _ (Array.getElem?_eq_some_iff.1 hK).1).trans hK
          have B5 := Lib.hid (HBr.out.trans (b5.mono HBr.out.size))
          obtain ⟨hsB, aL, aS, aR, aw, ast⟩ := A5.out
          have c1 := aL.cell
          have c2 := aS.cell
          obtain ⟨c3, c4, _, _⟩ := aw.cells
          have c5 := N5.cell
          have HST := Lib.hid ast
          clear b5 hK aL aS aR aw ast N5 hsB
          gi_wp2_with fail
          refine ⟨trivial, ?_⟩
          refine (callsIn_wide.2 (same_any b (.slice a zs.length cap) zs k (by omega) W5 HST.out ((HV.out.below B5.out).grow B5.out.size))).mono ?_
          rintro e W7 ⟨rfl, b7⟩
          have A7 := A5.out.below (b7.mono A5.out.1) (by omega) (by omega) (by omega) (by omega) (by omega)
          have K7 : W7.heap[D]? = some (.deferred (some [])) := (b7.block _ (Array.getElem?_eq_some_iff.1 K5).1).trans K5
          have B7 := Lib.hid (B5.out.trans (b7.mono B5.out.size))
          have r7 := A7.2.2.2.1
          have c7 := r7.cell
          have f7 := r7.frozen
          clear b7 A7 K5 c1 c2 c3 c4 c5
          gi_wp2_with fail
          have K8 := (KeepsOthers.setCell W7 ⟨w.heap.size + 1 + 1, 0, none⟩ (.bool true)).same D _ K7 rfl
          have r8 := r7.set (.bool true)
          have B8 := B7.out.trans (below_set (Below.refl w.heap.size W7) (b := w.heap.size + 1 + 1) (o := 0) (x := .bool true) (by omega))
          refine ⟨by simp, .inl ⟨_, _, rfl, run_takeDeferred K8, ?_⟩⟩
          generalize W7.setCell ⟨w.heap.size + 1 + 1, 0, none⟩ (.bool true) = W8 at *
          have E0 := (grown_cell (grownBy_putObj' W8 D (Obj.deferred none)) r8.lt (show w.heap.size + 1 + 1 ≠ D by omega)).trans r8.cell
          exact ⟨.bool true, by simp [results, Try.results3, E0, go_sem], rfl, B8.trans (belowK_b (w := Wn) (by omega) W8 D _ _ (by omega) K8 rfl rfl)⟩
        case stop =>
          rintro D j c W hD ⟨rfl, ⟨hA, hn, hj2, hjN⟩, hB⟩ hK
          have hmn : min (N : Int) (stop + 1) = (j : Int) := by omega
          have HAr := Lib.hid hA
          have HBr := Lib.hid hB
          have HNr := Lib.hid hn
          have HNE := Lib.hid hNe
          clear hA hB hn hNe
          gi_wp2_with fail
          refine ⟨trivial, ?_⟩
          refine (callsIn_wide.2 (alive_any _)).mono ?_
          rintro e W5 ⟨rfl, b5⟩
          have A5 := Lib.hid (HAr.out.below (b5.mono HAr.out.1) (by omega) (by omega) (by omega) (by omega) (by omega))
          have N5 : Boxed W5 _ _ _ := (b5.block _ HNr.out.lt).trans HNr.out
          have K5 : W5.heap[D]? = some (.deferred (some [])) := (b5.block _ (Array.getElem?_eq_some_iff.1 hK).1).trans hK
          have B5 := Lib.hid (HBr.out.trans (b5.mono HBr.out.size))
          obtain ⟨hsB, aL, aS, aR, aw, ast⟩ := A5.out
          have c1 := aL.cell
          have c2 := aS.cell
          obtain ⟨c3, c4, _, _⟩ := aw.cells
          have c5 := N5.cell
          have HST := Lib.hid ast
          clear b5 hK aL aS aR aw ast N5 hsB
          gi_wp2_with fail
          refine ⟨trivial, ?_⟩
          refine (callsIn_wide.2 (same_any b (.slice a zs.length cap) zs k (by omega) W5 HST.out ((HV.out.below B5.out).grow B5.out.size))).mono ?_
          rintro e W7 ⟨rfl, b7⟩
          have A7 := A5.out.below (b7.mono A5.out.1) (by omega) (by omega) (by omega) (by omega) (by omega)
          have K7 : W7.heap[D]? = some (.deferred (some [])) := (b7.block _ (Array.getElem?_eq_some_iff.1 K5).1).trans K5
          have B7 := Lib.hid (B5.out.trans (b7.mono B5.out.size))
          have r7 := A7.2.2.2.1
          have c7 := r7.cell
          have f7 := r7.frozen
          clear b7 A7 K5 c1 c2 c3 c4 c5
          gi_wp2_with fail
          have K8 := (KeepsOthers.setCell W7 ⟨w.heap.size + 1 + 1, 0, none⟩ (.bool true)).same D _ K7 rfl
          have r8 := r7.set (.bool true)
          have B8 := B7.out.trans (below_set (Below.refl w.heap.size W7) (b := w.heap.size + 1 + 1) (o := 0) (x := .bool true) (by omega))
          refine ⟨by simp, .inl ⟨_, _, rfl, run_takeDeferred K8, ?_⟩⟩
          generalize W7.setCell ⟨w.heap.size + 1 + 1, 0, none⟩ (.bool true) = W8 at *
          have E0 := (grown_cell (grownBy_putObj' W8 D (Obj.deferred none)) r8.lt (show w.heap.size + 1 + 1 ≠ D by omega)).trans r8.cell
          exact ⟨.bool true, by simp [results, Try.results3, E0, go_sem], rfl, B8.trans (belowK_b (w := Wn) (by omega) W8 D _ _ (by omega) K8 rfl rfl)⟩
end
end Go.Proofs.Ytognfmkabjngnaa
