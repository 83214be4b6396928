/- Layer 18: nil links, and messages with another tag. -/
import Derived.Test.YtgbgmmakiimbbaaLnkR
namespace Go.Proofs.Ytgbgmmakiimbbaa
open Go.RowKit
set_option linter.unusedVariables false
theorem Six.held {w w' : World} {b : Nat} {t : TypeId} {x0 x1 x2 x3 x4 x5 : Value} {B : Nat} (h : Six w b t x0 x1 x2 x3 x4 x5) (hb : Below B w w') (hB : b < B) : Six w' b t x0 x1 x2 x3 x4 x5 := (hb.block b hB).trans h
theorem Five.held {w w' : World} {b : Nat} {t : TypeId} {x0 x1 x2 x3 x4 : Value} {B : Nat} (h : Five w b t x0 x1 x2 x3 x4) (hb : Below B w w') (hB : b < B) : Five w' b t x0 x1 x2 x3 x4 := (hb.block b hB).trans h
theorem Four.set0 {w : World} {b : Nat} {t : TypeId} {x0 x1 x2 x3 : Value} (h : Four w b t x0 x1 x2 x3) (v : Value) : Four (w.setCell ⟨b, 0, none⟩ v) b t v x1 x2 x3 := h.set_heap 0 v
theorem Five.kept {w w' : World} {b : Nat} {t : TypeId} {x0 x1 x2 x3 x4 : Value} {row : Option Nat} (h : Five w b t x0 x1 x2 x3 x4) (hg : w.grownBy w' row) (hne : some b ≠ row) : Five w' b t x0 x1 x2 x3 x4 := (hg.block b h.lt hne).trans h
set_option maxRecDepth 8000 in
set_option maxHeartbeats 4000000 in
theorem walk_nil (ta tb tc td te ua ub uc ud ue : Int) (v : Value) (zs : List Int) (w : World) (hv : IntsW .i64 w.heap.size w v zs) :
    Calls Try.prog 7 #[.agg #[.int .i64 ta, .int .i64 tb, .int .i64 tc, .int .i64 td, .int .i64 te, v], .agg #[.int .i64 ua, .int .i64 ub, .int .i64 uc, .int .i64 ud, .int .i64 ue]] w fun e w' => e = .returned (.bool true) ∧ Below w.heap.size w w' := by
  obtain ⟨va, vc, rfl⟩ := hv.value
  have bA := (Below.refl w.heap.size w).alloc (Nat.le_refl _) (.cells #[.int .i64 ta, .int .i64 tb, .int .i64 tc, .int .i64 td, .int .i64 te, .slice va zs.length vc] 34)
  have S0 := (Six.new w 34 (.int .i64 ta) (.int .i64 tb) (.int .i64 tc) (.int .i64 td) (.int .i64 te) (.slice va zs.length vc)).later ((Below.refl _ _).alloc (Nat.le_refl _) (.cells #[.int .i64 ua, .int .i64 ub, .int .i64 uc, .int .i64 ud, .int .i64 ue] 31))
  have T0 := Five.new (w.alloc (.cells #[.int .i64 ta, .int .i64 tb, .int .i64 tc, .int .i64 td, .int .i64 te, .slice va zs.length vc] 34)) 31 (.int .i64 ua) (.int .i64 ub) (.int .i64 uc) (.int .i64 ud) (.int .i64 ue)
  rw [World.size_alloc] at T0
  have B0 := Lib.hid (bA.alloc bA.size (.cells #[.int .i64 ua, .int .i64 ub, .int .i64 uc, .int .i64 ud, .int .i64 ue] 31))
  clear bA
  have HV := Lib.hid hv
  clear hv
  by_cases h5 : zs.length ≤ 500
  · have g1 : decide ((500 : Int) < (zs.length : Int)) = false := by simp; omega
    have hm : zs.length * 8 ≤ 140737488351232 := by omega
    go_enter Try.func7, Try.ntmps7
    go_upto_region 1 with fail
    generalize (w.alloc (.cells #[.int .i64 ta, .int .i64 tb, .int .i64 tc, .int .i64 td, .int .i64 te, .slice va zs.length vc] 34)).alloc (.cells #[.int .i64 ua, .int .i64 ub, .int .i64 uc, .int .i64 ud, .int .i64 ue] 31) = W0 at *
    obtain ⟨⟨s0, s1, s2⟩, s3, s4, s5⟩ := S0.cells
    obtain ⟨t0, t1, t2, t3, t4⟩ := T0.cells
    go_wp2_with fail
    clear s0 s1 s2 s3 s4 s5 t0 t1 t2 t3 t4
    refine (recv_nil ⟨ua, ub, uc, ud, ue⟩ W0).mono ?_
    rintro e w1 ⟨rfl, b1⟩
    have B1 := Lib.hid (B0.out.trans (b1.mono B0.out.size))
    replace S0 := S0.later b1
    replace T0 := T0.later b1
    clear B0 b1
    go_upto_region 5 with fail
    have c2 := (Below.refl w1.heap.size w1).alloc (Nat.le_refl _) (.cells #[.int .i64 0, .int .i64 0, .int .i64 0, .int .i64 0, .int .i64 0, .slice none 0 0] 34)
    have B2 := Lib.hid (B1.out.trans (c2.mono B1.out.size))
    replace S0 := S0.later c2
    replace T0 := T0.later c2
    clear B1 c2
    generalize w1.alloc (.cells #[.int .i64 0, .int .i64 0, .int .i64 0, .int .i64 0, .int .i64 0, .slice none 0 0] 34) = w2 at *
    go_wp2_with fail
    refine (counts_nil w2).mono ?_
    rintro e w3 ⟨rfl, b3⟩
    have B3 := Lib.hid (B2.out.trans (b3.mono B2.out.size))
    replace S0 := S0.later b3
    replace T0 := T0.later b3
    clear B2 b3
    go_wp2_with fail
    refine (peek_nil w3).mono ?_
    rintro e w4 ⟨rfl, b4⟩
    unfold encT
    have c5 := (b4).alloc b4.size (.cells #[.int .i64 0, .int .i64 0, .int .i64 0, .int .i64 0, .int .i64 0] 31)
    have B5 := Lib.hid (B3.out.trans (c5.mono B3.out.size))
    replace S0 := S0.later c5
    replace T0 := T0.later c5
    clear B3 c5
    clear b4
    go_upto_region 7 with fail
    generalize w4.alloc (.cells #[.int .i64 0, .int .i64 0, .int .i64 0, .int .i64 0, .int .i64 0] 31) = w5 at *
    go_wp2_with fail
    refine (new_any 1 w5 (by decide) (by decide)).mono ?_
    rintro e w6 ⟨rfl, hL, b6⟩
    have hb0 : w.heap.size + 1 < w5.heap.size := T0.lt
    have B6 := Lib.hid (B5.out.trans (b6.mono B5.out.size))
    replace S0 := S0.later b6
    replace T0 := T0.later b6
    clear B5 b6
    have L : LinkAt w5.heap.size (w5.heap.size + 1) 1 [] 0 0 w6 := LinkAt.new (Nat.lt_succ_self _) (Six.lt hL) hL
    have R : ringB w5.heap.size w6 = none := ringB_of hL
    clear hL
    generalize w5.heap.size = b at *
    obtain ⟨⟨s0, s1, s2⟩, s3, s4, s5⟩ := S0.cells
    go_wp2_with fail
    clear s0 s1 s2 s3 s4 s5
    refine (send_nil ⟨ta, tb, tc, td, te⟩ _ w6).mono ?_
    rintro e w7 ⟨rfl, b7⟩
    have B7 := Lib.hid (B6.out.trans (b7.mono B6.out.size))
    replace S0 := S0.later b7
    replace T0 := T0.later b7
    replace R := (ringB_later L b7).trans R
    replace L := L.later b7
    clear B6 b7
    go_wp2_with fail
    refine (len_nil w7).mono ?_
    rintro e w8 ⟨rfl, rfl⟩
    go_wp2_with fail
    refine (cap_nil w8).mono ?_
    rintro e w9 ⟨rfl, b9⟩
    have B9 := Lib.hid (B7.out.trans (b9.mono B7.out.size))
    replace S0 := S0.later b9
    replace T0 := T0.later b9
    replace R := (ringB_later L b9).trans R
    replace L := L.later b9
    clear B7 b9
    go_wp2_with fail
    refine (peak_nil w9).mono ?_
    rintro e w10 ⟨rfl, b10⟩
    have B10 := Lib.hid (B9.out.trans (b10.mono B9.out.size))
    replace S0 := S0.later b10
    replace T0 := T0.later b10
    replace R := (ringB_later L b10).trans R
    replace L := L.later b10
    clear B9 b10
    go_wp2_with fail
    refine (messages_nil w10).mono ?_
    rintro e w11 ⟨rfl, b11⟩
    have B11 := Lib.hid (B10.out.trans (b11.mono B10.out.size))
    replace S0 := S0.later b11
    replace T0 := T0.later b11
    replace R := (ringB_later L b11).trans R
    replace L := L.later b11
    clear B10 b11
    go_upto_region 11 with fail
    have hbw : b < w11.heap.size := L.lt
    have F := Four.new w11 29 (.int .i64 1) (.slice none 0 0) (.int .i64 0) (.int .i64 0)
    have c12 := (Below.refl w11.heap.size w11).alloc (Nat.le_refl _) (.cells #[.int .i64 1, .slice none 0 0, .int .i64 0, .int .i64 0] 29)
    have B12 := Lib.hid (B11.out.trans (c12.mono B11.out.size))
    replace S0 := S0.later c12
    replace T0 := T0.later c12
    replace R := (ringB_later L c12).trans R
    replace L := L.later c12
    clear B11 c12
    generalize w11.alloc (.cells #[.int .i64 1, .slice none 0 0, .int .i64 0, .int .i64 0] 29) = w12 at *
    generalize w11.heap.size = bw at *
    have H : Both w.heap.size b bw 1 [] 0 0 (.slice none 0 0) [] 0 0 w12 := ⟨L, F, SentAt.nil _ _ _, (fun k hk => by rw [R] at hk; cases hk), by omega, by omega⟩
    have hlt12 := H.link.lt
    clear L F
    obtain ⟨⟨s0, s1, s2⟩, s3, s4, s5⟩ := S0.cells
    obtain ⟨c0, c1, c2, c3⟩ := H.four.cells
    have HSD := refSend_room 1 (.slice none 0 0) (.slice va zs.length vc) [] zs 0 0 ⟨ta, tb, tc, td, te⟩ w.heap.size (b + 1) (by decide) (by decide) (by decide) (by decide) w12 H.sent B12.out.size (HV.out.below B12.out)
    rw [show (max 0 (([] : List Ms).length + 1 - 0)) = 1 from rfl] at HSD
    have HH := Lib.hid H
    have HR := Lib.hid R
    clear H R
    go_wp2_with fail
    refine HSD.mono ?_
    rintro e w13 ⟨sv, rfl, SN, b13⟩
    have H := HH.out.later b13
    have R : ringB b w13 = none := (ringB_later HH.out.link b13).trans HR.out
    clear HH HR HSD s0 s1 s2 s3 s4 s5 c0 c1 c2 c3
    have B13 := Lib.hid (B12.out.trans (b13.mono B12.out.size))
    replace S0 := S0.later b13
    replace T0 := T0.later b13
    clear B12 b13
    unfold encL
    obtain ⟨sva, svc, rfl⟩ : ∃ a c, sv = .slice a 1 c := SN.value
    obtain ⟨c0, c1, c2, c3⟩ := H.four.cells
    have f0 := H.four.frozen 0
    have f1 := H.four.frozen 1
    have f2 := H.four.frozen 2
    have f3 := H.four.frozen 3
    have H' : Both w.heap.size b bw 1 [] 0 0 (.slice sva 1 svc) [⟨⟨ta, tb, tc, td, te⟩, zs⟩] 0 1 ((((w13.setCell ⟨bw, 0, none⟩ (.int .i64 1)).setCell ⟨bw, 1, none⟩ (.slice sva 1 svc)).setCell ⟨bw, 2, none⟩ (.int .i64 0)).setCell ⟨bw, 3, none⟩ (.int .i64 1)) := H.refs (rr' := 0) (pk' := 1) SN hlt12 (fun k hk => by rw [R] at hk; cases hk)
    have G := grown_four w13 bw (.int .i64 1) (.slice sva 1 svc) (.int .i64 0) (.int .i64 1)
    have R' : ringB b ((((w13.setCell ⟨bw, 0, none⟩ (.int .i64 1)).setCell ⟨bw, 1, none⟩ (.slice sva 1 svc)).setCell ⟨bw, 2, none⟩ (.int .i64 0)).setCell ⟨bw, 3, none⟩ (.int .i64 1)) = none := (ringB_kept H.link G (by omega)).trans R
    replace S0 := S0.kept G (fun e => by have := Option.some.inj e; omega)
    replace T0 := T0.kept G (fun e => by have := Option.some.inj e; omega)
    have B14 := Lib.hid (B13.out.trans ((below_four w13 bw (.int .i64 1) (.slice sva 1 svc) (.int .i64 0) (.int .i64 1)).mono (by omega)))
    have HH := Lib.hid H'
    have HR := Lib.hid R'
    clear H H' R R' B13 G SN
    go_upto_region 12 with fail
    generalize ((((w13.setCell ⟨bw, 0, none⟩ (.int .i64 1)).setCell ⟨bw, 1, none⟩ (.slice sva 1 svc)).setCell ⟨bw, 2, none⟩ (.int .i64 0)).setCell ⟨bw, 3, none⟩ (.int .i64 1)) = w14 at *
    clear c0 c1 c2 c3 f0 f1 f2 f3
    have k1 : LinkOk 1 [] 0 0 := ⟨by decide, by decide, by decide, fun m hm => by cases hm⟩
    have k2 : LinkOk 1 [⟨⟨ta, tb, tc, td, te⟩, zs⟩] 0 1 := ⟨by decide, by decide, by decide, fun m' hm' => by simp at hm'; subst hm'; exact hm⟩
    have hlt14 := HH.out.link.lt
    have hvv : ∀ W', w14.grownBy W' (some b) → IntsW .i64 w14.heap.size W' (.slice va zs.length vc) zs := fun W' g => (HV.out.below (B14.out.trans ((Grown.below g hlt14).mono (by omega)))).grow B14.out.size
    obtain ⟨⟨s0, s1, s2⟩, s3, s4, s5⟩ := S0.cells
    go_wp2_with fail
    refine (send_ok b 1 0 0 [] ⟨ta, tb, tc, td, te⟩ (.slice va zs.length vc) zs hm w14 hvv HH.out.link k1 (by decide)).mono ?_
    rintro e w15 ⟨rfl, l15, t15, r15⟩
    have H := HH.out.touch (q' := [⟨⟨ta, tb, tc, td, te⟩, zs⟩]) (rcv' := 0) (hi' := 1) l15 t15 r15
    clear HH HR hvv s0 s1 s2 s3 s4 s5
    replace S0 := S0.held t15.1 (by omega)
    replace T0 := T0.held t15.1 (by omega)
    have B15 := Lib.hid (B14.out.trans (t15.1.mono (by omega)))
    clear l15 t15 r15 B14
    have HH := Lib.hid H
    clear H
    go_upto_region 13 with fail
    obtain ⟨t0, t1, t2, t3, t4⟩ := T0.cells
    by_cases ht : (⟨ta, tb, tc, td, te⟩ : Tg) = ⟨ua, ub, uc, ud, ue⟩
    · simp only [Tg.mk.injEq] at ht
      obtain ⟨rfl, rfl, rfl, rfl, rfl⟩ := ht
      go_wp2_with fail
      refine (recv_ok b 1 0 1 ⟨⟨ta, tb, tc, td, te⟩, zs⟩ [] w15 HH.out.link k2).mono ?_
      rintro e w16 ⟨v16, rfl, o16, l16, t16, r16⟩
      obtain ⟨ra, rc, rfl⟩ := own_value o16
      have H := HH.out.touch l16 t16 (.inl r16)
      clear HH t0 t1 t2 t3 t4 o16 l16 r16
      replace S0 := S0.held t16.1 (by omega)
      replace T0 := T0.held t16.1 (by omega)
      have B16 := Lib.hid (B15.out.trans (t16.1.mono (by omega)))
      clear t16 B15
      unfold encM
      dsimp only
      have c17 := (Below.refl w16.heap.size w16).alloc (Nat.le_refl _) (.cells #[.int .i64 ta, .int .i64 tb, .int .i64 tc, .int .i64 td, .int .i64 te, .slice ra zs.length rc] 34)
      replace H := H.later c17
      replace T0 := T0.later c17
      have B17 := Lib.hid (B16.out.trans (c17.mono B16.out.size))
      clear c17 B16 S0
      have HH := Lib.hid H
      have HS := Lib.hid (H.sent.msgs B17.out.size)
      obtain ⟨c0, c1, c2, c3⟩ := H.four.cells
      obtain ⟨t0, t1, t2, t3, t4⟩ := T0.cells
      clear H
      go_upto_region 14 with fail
      generalize w16.alloc (.cells #[.int .i64 ta, .int .i64 tb, .int .i64 tc, .int .i64 td, .int .i64 te, .slice ra zs.length rc] 34) = w17 at *
      go_wp2_with fail
      refine (refRecv_ok 1 (.slice sva 1 svc) [⟨⟨ta, tb, tc, td, te⟩, zs⟩] 0 1 ⟨⟨ta, tb, tc, td, te⟩, zs⟩ (show 1 ≤ 1099511627776 by decide) rfl w17 HS.out).mono ?_
      rintro e w18 ⟨u18, rfl, i18, b18⟩
      obtain ⟨ua2, uc2, rfl⟩ := i18.value
      unfold encL encM
      dsimp only
      clear i18
      clear t0 t1 t2 t3 t4 c0 c1 c2 c3 T0
      have H := HH.out.later b18
      have B18 := Lib.hid (B17.out.trans (b18.mono B17.out.size))
      clear HH HS B17 b18
      have hl18 := H.link.lt
      have hf18 := H.four.lt
      have hr18 := fun k hk => (H.link.ring (k := k) hk).2
      have H6 : Both w.heap.size b bw 1 [] 1 1 (.slice sva 1 svc) [⟨⟨ta, tb, tc, td, te⟩, zs⟩] 1 1 ((((w18.setCell ⟨bw, 0, none⟩ (.int .i64 1)).setCell ⟨bw, 1, none⟩ (.slice sva 1 svc)).setCell ⟨bw, 2, none⟩ (.int .i64 1)).setCell ⟨bw, 3, none⟩ (.int .i64 1)) := H.refs (rr' := 1) (pk' := 1) H.sent (Nat.lt_succ_self b) (fun k hk => (H.ring k hk).2)
      have A0 := H.four
      have A1 := A0.set0 (.int .i64 1)
      have A2 := A1.set1 (.slice sva 1 svc)
      have A3 := A2.set2 (.int .i64 1)
      have d0 := ((A0.later ((Below.refl _ _).alloc (Nat.le_refl _) (.cells #[.int .i64 0, .int .i64 0, .int .i64 0, .int .i64 0, .int .i64 0, .slice none 0 0] 34))).cells).1
      have f0 := (A0.later ((Below.refl _ _).alloc (Nat.le_refl _) (.cells #[.int .i64 0, .int .i64 0, .int .i64 0, .int .i64 0, .int .i64 0, .slice none 0 0] 34))).frozen 0
      have d1 := ((A1.later ((Below.refl _ _).alloc (Nat.le_refl _) (.cells #[.int .i64 0, .int .i64 0, .int .i64 0, .int .i64 0, .int .i64 0, .slice none 0 0] 34))).cells).2.1
      have f1 := (A1.later ((Below.refl _ _).alloc (Nat.le_refl _) (.cells #[.int .i64 0, .int .i64 0, .int .i64 0, .int .i64 0, .int .i64 0, .slice none 0 0] 34))).frozen 1
      have d2 := ((A2.later ((Below.refl _ _).alloc (Nat.le_refl _) (.cells #[.int .i64 0, .int .i64 0, .int .i64 0, .int .i64 0, .int .i64 0, .slice none 0 0] 34))).cells).2.2.1
      have f2 := (A2.later ((Below.refl _ _).alloc (Nat.le_refl _) (.cells #[.int .i64 0, .int .i64 0, .int .i64 0, .int .i64 0, .int .i64 0, .slice none 0 0] 34))).frozen 2
      have d3 := ((A3.later ((Below.refl _ _).alloc (Nat.le_refl _) (.cells #[.int .i64 0, .int .i64 0, .int .i64 0, .int .i64 0, .int .i64 0, .slice none 0 0] 34))).cells).2.2.2
      have f3 := (A3.later ((Below.refl _ _).alloc (Nat.le_refl _) (.cells #[.int .i64 0, .int .i64 0, .int .i64 0, .int .i64 0, .int .i64 0, .slice none 0 0] 34))).frozen 3
      have B6 := Lib.hid (B18.out.trans ((below_four w18 bw (.int .i64 1) (.slice sva 1 svc) (.int .i64 1) (.int .i64 1)).mono (by omega)))
      have HH := Lib.hid H6
      clear H H6 A0 A1 A2 A3 B18
      go_upto_region 15 with fail
      clear d0 d1 d2 d3 f0 f1 f2 f3
      generalize ((((w18.setCell ⟨bw, 0, none⟩ (.int .i64 1)).setCell ⟨bw, 1, none⟩ (.slice sva 1 svc)).setCell ⟨bw, 2, none⟩ (.int .i64 1)).setCell ⟨bw, 3, none⟩ (.int .i64 1)) = w19 at *
      have c20 := (Below.refl w19.heap.size w19).alloc (Nat.le_refl _) (.cells #[.int .i64 ta, .int .i64 tb, .int .i64 tc, .int .i64 td, .int .i64 te, .slice ua2 zs.length uc2] 34)
      have H := HH.out.later c20
      have B20 := Lib.hid (B6.out.trans (c20.mono B6.out.size))
      clear HH B6 c20
      generalize w19.alloc (.cells #[.int .i64 ta, .int .i64 tb, .int .i64 tc, .int .i64 td, .int .i64 te, .slice ua2 zs.length uc2] 34) = w20 at *
      go_wp2_with fail
      refine (alive18_any w20).mono ?_
      rintro e w21 ⟨rfl, b21⟩
      replace H := H.later b21
      have B21 := Lib.hid (B20.out.trans (b21.mono B20.out.size))
      clear B20 b21
      obtain ⟨c0, c1, c2, c3⟩ := H.four.cells
      have k3 : LinkOk 1 [] 1 1 := ⟨by decide, by decide, by decide, fun m' hm' => by cases hm'⟩
      have HSM := Lib.hid (same18_any b 1 1 1 [] (.slice sva 1 svc) [⟨⟨ta, tb, tc, td, te⟩, zs⟩] rfl rfl (show 1 ≤ 1099511627776 by decide) w21 H.link k3 (H.sent.msgs B21.out.size))
      clear H
      go_wp2_with fail
      refine HSM.out.mono ?_
      rintro e w22 ⟨rfl, b22⟩
      have B22 := Lib.hid (B21.out.trans (b22.mono B21.out.size))
      clear b22 B21 HSM c0 c1 c2 c3
      go_wp2_with fail
      go_ret
      exact ⟨rfl, B22.out⟩
    · go_wp2_with fail
      refine (recv_tag b 1 0 1 ⟨⟨ta, tb, tc, td, te⟩, zs⟩ [] ⟨ua, ub, uc, ud, ue⟩ ht w15 HH.out.link k2).mono ?_
      rintro e w16 ⟨rfl, b16⟩
      have H := HH.out.later b16
      clear HH t0 t1 t2 t3 t4
      replace S0 := S0.later b16
      replace T0 := T0.later b16
      have B16 := Lib.hid (B15.out.trans (b16.mono B15.out.size))
      clear b16 B15
      have c17 := (Below.refl w16.heap.size w16).alloc (Nat.le_refl _) (.cells #[.int .i64 0, .int .i64 0, .int .i64 0, .int .i64 0, .int .i64 0, .slice none 0 0] 34)
      replace H := H.later c17
      replace T0 := T0.later c17
      have B17 := Lib.hid (B16.out.trans (c17.mono B16.out.size))
      clear c17 B16 S0
      have HH := Lib.hid H
      have HS := Lib.hid (H.sent.msgs B17.out.size)
      obtain ⟨c0, c1, c2, c3⟩ := H.four.cells
      obtain ⟨t0, t1, t2, t3, t4⟩ := T0.cells
      clear H
      go_upto_region 14 with fail
      generalize w16.alloc (.cells #[.int .i64 0, .int .i64 0, .int .i64 0, .int .i64 0, .int .i64 0, .slice none 0 0] 34) = w17 at *
      go_wp2_with fail
      refine (refRecv_tag 1 (.slice sva 1 svc) [⟨⟨ta, tb, tc, td, te⟩, zs⟩] 0 1 ⟨⟨ta, tb, tc, td, te⟩, zs⟩ ⟨ua, ub, uc, ud, ue⟩ ht (show 1 ≤ 1099511627776 by decide) rfl w17 HS.out).mono ?_
      rintro e w18 ⟨rfl, b18⟩
      unfold encL
      clear t0 t1 t2 t3 t4 c0 c1 c2 c3 T0
      have H := HH.out.later b18
      have B18 := Lib.hid (B17.out.trans (b18.mono B17.out.size))
      clear HH HS B17 b18
      have hl18 := H.link.lt
      have hf18 := H.four.lt
      have hr18 := fun k hk => (H.link.ring (k := k) hk).2
      have H6 : Both w.heap.size b bw 1 [⟨⟨ta, tb, tc, td, te⟩, zs⟩] 0 1 (.slice sva 1 svc) [⟨⟨ta, tb, tc, td, te⟩, zs⟩] 0 1 ((((w18.setCell ⟨bw, 0, none⟩ (.int .i64 1)).setCell ⟨bw, 1, none⟩ (.slice sva 1 svc)).setCell ⟨bw, 2, none⟩ (.int .i64 0)).setCell ⟨bw, 3, none⟩ (.int .i64 1)) := H.refs (rr' := 0) (pk' := 1) H.sent (Nat.lt_succ_self b) (fun k hk => (H.ring k hk).2)
      have A0 := H.four
      have A1 := A0.set0 (.int .i64 1)
      have A2 := A1.set1 (.slice sva 1 svc)
      have A3 := A2.set2 (.int .i64 0)
      have d0 := ((A0.later ((Below.refl _ _).alloc (Nat.le_refl _) (.cells #[.int .i64 0, .int .i64 0, .int .i64 0, .int .i64 0, .int .i64 0, .slice none 0 0] 34))).cells).1
      have f0 := (A0.later ((Below.refl _ _).alloc (Nat.le_refl _) (.cells #[.int .i64 0, .int .i64 0, .int .i64 0, .int .i64 0, .int .i64 0, .slice none 0 0] 34))).frozen 0
      have d1 := ((A1.later ((Below.refl _ _).alloc (Nat.le_refl _) (.cells #[.int .i64 0, .int .i64 0, .int .i64 0, .int .i64 0, .int .i64 0, .slice none 0 0] 34))).cells).2.1
      have f1 := (A1.later ((Below.refl _ _).alloc (Nat.le_refl _) (.cells #[.int .i64 0, .int .i64 0, .int .i64 0, .int .i64 0, .int .i64 0, .slice none 0 0] 34))).frozen 1
      have d2 := ((A2.later ((Below.refl _ _).alloc (Nat.le_refl _) (.cells #[.int .i64 0, .int .i64 0, .int .i64 0, .int .i64 0, .int .i64 0, .slice none 0 0] 34))).cells).2.2.1
      have f2 := (A2.later ((Below.refl _ _).alloc (Nat.le_refl _) (.cells #[.int .i64 0, .int .i64 0, .int .i64 0, .int .i64 0, .int .i64 0, .slice none 0 0] 34))).frozen 2
      have d3 := ((A3.later ((Below.refl _ _).alloc (Nat.le_refl _) (.cells #[.int .i64 0, .int .i64 0, .int .i64 0, .int .i64 0, .int .i64 0, .slice none 0 0] 34))).cells).2.2.2
      have f3 := (A3.later ((Below.refl _ _).alloc (Nat.le_refl _) (.cells #[.int .i64 0, .int .i64 0, .int .i64 0, .int .i64 0, .int .i64 0, .slice none 0 0] 34))).frozen 3
      have B6 := Lib.hid (B18.out.trans ((below_four w18 bw (.int .i64 1) (.slice sva 1 svc) (.int .i64 0) (.int .i64 1)).mono (by omega)))
      have HH := Lib.hid H6
      clear H H6 A0 A1 A2 A3 B18
      go_upto_region 15 with fail
      clear d0 d1 d2 d3 f0 f1 f2 f3
      generalize ((((w18.setCell ⟨bw, 0, none⟩ (.int .i64 1)).setCell ⟨bw, 1, none⟩ (.slice sva 1 svc)).setCell ⟨bw, 2, none⟩ (.int .i64 0)).setCell ⟨bw, 3, none⟩ (.int .i64 1)) = w19 at *
      have c20 := (Below.refl w19.heap.size w19).alloc (Nat.le_refl _) (.cells #[.int .i64 0, .int .i64 0, .int .i64 0, .int .i64 0, .int .i64 0, .slice none 0 0] 34)
      have H := HH.out.later c20
      have B20 := Lib.hid (B6.out.trans (c20.mono B6.out.size))
      clear HH B6 c20
      generalize w19.alloc (.cells #[.int .i64 0, .int .i64 0, .int .i64 0, .int .i64 0, .int .i64 0, .slice none 0 0] 34) = w20 at *
      go_wp2_with fail
      refine (alive18_any w20).mono ?_
      rintro e w21 ⟨rfl, b21⟩
      replace H := H.later b21
      have B21 := Lib.hid (B20.out.trans (b21.mono B20.out.size))
      clear B20 b21
      obtain ⟨c0, c1, c2, c3⟩ := H.four.cells
      have k3 : LinkOk 1 [⟨⟨ta, tb, tc, td, te⟩, zs⟩] 0 1 := ⟨by decide, by decide, by decide, fun m' hm' => by simp at hm'; subst hm'; exact hm⟩
      have HSM := Lib.hid (same18_any b 1 0 1 [⟨⟨ta, tb, tc, td, te⟩, zs⟩] (.slice sva 1 svc) [⟨⟨ta, tb, tc, td, te⟩, zs⟩] rfl rfl (show 1 ≤ 1099511627776 by decide) w21 H.link k3 (H.sent.msgs B21.out.size))
      clear H
      go_wp2_with fail
      refine HSM.out.mono ?_
      rintro e w22 ⟨rfl, b22⟩
      have B22 := Lib.hid (B21.out.trans (b22.mono B21.out.size))
      clear b22 B21 HSM c0 c1 c2 c3
      go_wp2_with fail
      go_ret
      exact ⟨rfl, B22.out⟩
  · have g1 : decide ((500 : Int) < (zs.length : Int)) = true := by simp; omega
    go_enter Try.func7, Try.ntmps7
    go_upto_region 1 with fail
    generalize (w.alloc (.cells #[.int .i64 ta, .int .i64 tb, .int .i64 tc, .int .i64 td, .int .i64 te, .slice va zs.length vc] 34)).alloc (.cells #[.int .i64 ua, .int .i64 ub, .int .i64 uc, .int .i64 ud, .int .i64 ue] 31) = W0 at *
    obtain ⟨⟨s0, s1, s2⟩, s3, s4, s5⟩ := S0.cells
    clear S0 T0
    go_wp2_with fail
    refine (alive18_any W0).mono ?_
    rintro e w1 ⟨rfl, b1⟩
    have B1 := Lib.hid (B0.out.trans (b1.mono B0.out.size))
    clear b1 B0 s0 s1 s2 s3 s4 s5
    go_wp2_with fail
    go_ret
    exact ⟨rfl, B1.out⟩
end Go.Proofs.Ytgbgmmakiimbbaa
